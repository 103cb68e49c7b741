"""Polynomials with whole numbers: lists, the number before t^k at index k.

The last number of a polynomial is not 0, but where a function tells otherwise;
nought is the empty list.
"""

from math import gcd

# Any prime would do; a great one seldom finds a common divisor that is not there.
PRIME = 2305843009213693951
# More of them make it less likely that a guess fails, and the guess slower.
SPARE_BITS = 64


def poly_sum(first, second):
    """The sum, as long as the longer one; it may end with noughts."""
    if len(first) < len(second):
        first, second = second, first
    return [number + (second[k] if k < len(second) else 0) for k, number in enumerate(first)]


def poly_scaled(poly, factor):
    """All numbers times the factor."""
    return [number * factor for number in poly]


def poly_product(first, second):
    """The product, as long as the lengths ask for; it may end with noughts."""
    if not first or not second:
        return []
    out = [0] * (len(first) + len(second) - 1)
    for k, number in enumerate(first):
        for j, other in enumerate(second):
            out[k + j] += number * other
    return out


def without_top_noughts(numbers):
    """The polynomial of numbers that may end with noughts."""
    size = len(numbers)
    while size > 0 and numbers[size - 1] == 0:
        size -= 1
    return numbers[:size]


def derivative(poly):
    """The derivative."""
    return [k * number for k, number in enumerate(poly)][1:]


def primitive(poly):
    """The polynomial without the divisors that all its numbers have in common."""
    common = 0
    for number in poly:
        common = gcd(common, number)
    return [number // common for number in poly]


def remainder(poly, divisor):
    """What is left of a multiple of the polynomial, divided by the divisor."""
    rest = list(poly)
    while len(rest) >= len(divisor):
        rest = step_down(rest, divisor)
    return rest


def step_down(poly, divisor):
    """A multiple of the polynomial less one of the divisor, of a lower degree."""
    common = gcd(poly[-1], divisor[-1])
    factor, top = divisor[-1] // common, poly[-1] // common
    gap = len(poly) - len(divisor)
    less = [0] * gap + poly_scaled(divisor, -top)
    return without_top_noughts(poly_sum(poly_scaled(poly, factor), less))


def greatest_divisor(first, second):
    """A greatest common divisor, primitive and with its last number above 0, of two polynomials
    of which the first is not nought.
    """
    first = primitive(first)
    if are_surely_apart(first, second):
        return [1]
    common = first
    if second:
        second = primitive(second)
        common = guessed_divisor(first, second) or stepped_divisor(first, second)
    return common if common[-1] > 0 else poly_scaled(common, -1)


def guessed_divisor(first, second):
    """A greatest common divisor of two primitive polynomials by that of their values at one great
    number; None if this tells none (Char, Geddes, Gonnet 1984).
    """
    # What divides both, and is made of digits of a common divisor of the values, leaves no factor
    # over: its value would be greater than a digit, for the zeros are far below the great number.
    norm = min(max([abs(number) for number in first]), max([abs(number) for number in second]))
    bits = norm.bit_length() + SPARE_BITS
    digits = digits_of(gcd(value_of_bits(first, bits), value_of_bits(second, bits)), bits)
    common = primitive(digits)
    if exact_quotient(first, common) is None or exact_quotient(second, common) is None:
        return None
    return common


def value_of_bits(poly, bits):
    """The polynomial at 2^bits."""
    total = 0
    for number in reversed(poly):
        total = (total << bits) + number
    return total


def digits_of(value, bits):
    """A polynomial with this value, above 0, at 2^bits, its numbers from - 2^(bits - 1) on and below 2^(bits - 1)."""
    out, half = [], 1 << bits - 1
    while value != 0:
        digit = ((value + half) & (2 * half - 1)) - half
        value = (value - digit) >> bits
        out.append(digit)
    return out


def stepped_divisor(first, second):
    """A greatest common divisor of two primitive polynomials by Euclid's steps."""
    while second:
        first, second = primitive(second), remainder(first, primitive(second))
    return first


def exact_quotient(poly, divisor):
    """The polynomial divided by a primitive one; None if this does not divide it."""
    rest, out = list(poly), []
    while len(rest) >= len(divisor):
        factor = rest[-1] // divisor[-1]
        gap = len(rest) - len(divisor)
        rest = poly_sum(rest, [0] * gap + poly_scaled(divisor, -factor))
        if rest.pop() != 0:
            return None
        out.append(factor)
    return None if without_top_noughts(rest) else out[::-1]


def square_free(poly):
    """The polynomial with the same zeros, each of them once; the polynomial is not nought."""
    poly = primitive(poly)
    return exact_quotient(poly, greatest_divisor(poly, derivative(poly)))


def layers(poly):
    """Polynomials with each of their zeros once: in the k-th those that come more than k times.

    Their product is the polynomial, which is not nought, but for a factor. If
    the last number of the polynomial is above 0, so are theirs.
    """
    rest, out = primitive(poly), []
    while len(rest) > 1:
        out.append(square_free(rest))
        rest = exact_quotient(rest, out[-1])
    return out


def are_surely_apart(first, second):
    """True only if there is no common divisor: then the numbers modulo a prime show it, mostly at once.

    A common divisor keeps its degree modulo a prime that does not divide the
    last number of the first polynomial, which is not nought.
    """
    if first[-1] % PRIME == 0:
        return False
    first, second = small_numbers(first), small_numbers(second)
    while second:
        rest = first
        while len(rest) >= len(second):
            rest = small_numbers(step_down(rest, second))
        first, second = second, rest
    return len(first) == 1


def small_numbers(poly):
    """The polynomial modulo the prime."""
    return without_top_noughts([number % PRIME for number in poly])
