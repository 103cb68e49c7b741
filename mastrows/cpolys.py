"""Polynomials with whole complex numbers: lists of pairs (RE, IM) of whole numbers.

The pair before z^k stands at index k. The last pair of a polynomial is not
(0, 0), but where a function tells otherwise; nought is the empty list. So the
numbers of rows and lags are reckoned with, too, over one common bottom: then
nothing needs to be reduced but what is told at the end.
"""

from math import gcd, lcm

from mastrows.fracs import reduced

NIL = (0, 0)
# Any prime that leaves 1 when divided by 4 would do; ROOT times ROOT is -1 modulo it.
PRIME = 2305843009213693921
ROOT = 583529827753931384


def common_bottom(numbers):
    """A whole number above 0 that makes all parts of the complex numbers whole."""
    bottom = 1
    for real, imaginary in numbers:
        bottom = lcm(bottom, real[1], imaginary[1])
    return bottom


def pairs_over(numbers, bottom):
    """The pairs of the complex numbers, each times the bottom."""
    return [(real[0] * (bottom // real[1]), side[0] * (bottom // side[1])) for real, side in numbers]


def numbers_over(pairs, bottom):
    """The complex numbers of the pairs, each divided by the bottom."""
    return tuple([(reduced(real, bottom), reduced(side, bottom)) for real, side in pairs])


def pair_sum(first, second):
    """The sum of two pairs."""
    return first[0] + second[0], first[1] + second[1]


def pair_product(first, second):
    """The product of two pairs."""
    return first[0] * second[0] - first[1] * second[1], first[0] * second[1] + first[1] * second[0]


def pair_times(pair, factor):
    """A pair times a whole number."""
    return pair[0] * factor, pair[1] * factor


def pair_mirror(pair):
    """The conjugate of a pair."""
    return pair[0], -pair[1]


def cpoly_sum(first, second):
    """The sum, as long as the longer one; it may end with noughts."""
    if len(first) < len(second):
        first, second = second, first
    return [pair_sum(pair, second[k]) if k < len(second) else pair for k, pair in enumerate(first)]


def cpoly_times(poly, pair):
    """All numbers times a pair."""
    return [pair_product(other, pair) for other in poly]


def cpoly_product(first, second):
    """The product, as long as the lengths ask for; it may end with noughts."""
    if not first or not second:
        return []
    out = [NIL] * (len(first) + len(second) - 1)
    for k, pair in enumerate(first):
        for j, other in enumerate(second):
            out[k + j] = pair_sum(out[k + j], pair_product(pair, other))
    return out


def cpoly_mirror(poly):
    """The conjugates in the other order."""
    return [pair_mirror(pair) for pair in poly[::-1]]


def composed(poly, across, along):
    """The sum of the numbers before z^k times across^k * along^(n - k), n being the last index."""
    total, power = [], [(1, 0)]
    for pair in reversed(poly):
        total = cpoly_sum(cpoly_product(total, across), cpoly_times(power, pair))
        power = cpoly_product(power, along)
    return total


def lag_pairs(poly):
    """The lags of the row with these numbers: c_j is the sum of a_(k + j) * conj(a_k)."""
    size = len(poly)
    out = []
    for j in range(size):
        products = [pair_product(poly[k + j], pair_mirror(poly[k])) for k in range(size - j)]
        out.append((sum([pair[0] for pair in products]), sum([pair[1] for pair in products])))
    return out


def without_last_noughts(pairs):
    """The polynomial of pairs that may end with noughts."""
    size = len(pairs)
    while size > 0 and pairs[size - 1] == NIL:
        size -= 1
    return pairs[:size]


def evened(poly):
    """A multiple whose last number is real and above 0, without a whole divisor of all numbers."""
    return without_divisor(cpoly_times(poly, pair_mirror(poly[-1])))


def without_divisor(poly):
    """The polynomial divided by the greatest whole number that divides all parts of all its numbers."""
    common = greatest_whole(poly)
    return [(real // common, side // common) for real, side in poly]


def greatest_whole(poly):
    """The greatest whole number that divides all parts of all numbers, which are not all nought."""
    common = 0
    for real, side in poly:
        common = gcd(common, real, side)
    return common


def step_down(rest, divisor):
    """A multiple of the rest less a multiple of the divisor, so that the last number goes."""
    gap = len(rest) - len(divisor)
    kept = cpoly_times(rest, divisor[-1])
    taken = [NIL] * gap + cpoly_times(divisor, pair_times(rest[-1], -1))
    return without_last_noughts(cpoly_sum(kept, taken)[:-1])


def greatest_cdivisor(first, second):
    """A greatest common divisor of two polynomials other than nought, evened."""
    first, second = evened(first), evened(second)
    if are_surely_apart(first, second):
        return [(1, 0)]
    while second:
        rest = first
        while len(rest) >= len(second):
            rest = step_down(rest, second)
        first, second = second, evened(rest) if rest else rest
    return first


def are_surely_apart(first, second):
    """True only if there is no common divisor: then the numbers modulo a prime show it, mostly at once.

    A common divisor keeps its degree modulo a prime that does not divide the
    last numbers, which are real here.
    """
    if first[-1][0] % PRIME == 0 or second[-1][0] % PRIME == 0:
        return False
    first, second = small_pairs(first), small_pairs(second)
    while second:
        rest = first
        while len(rest) >= len(second):
            rest = small_pairs(step_down(rest, second))
        first, second = second, rest
    return len(first) == 1


def small_pairs(poly):
    """The polynomial modulo the prime, with the root in the place of i."""
    return without_last_noughts([((real + side * ROOT) % PRIME, 0) for real, side in poly])


def cpoly_quotient(poly, divisor):
    """The polynomial divided by an evened divisor of it, as its pairs and the bottom below all of them."""
    last = divisor[-1][0]
    steps = len(poly) - len(divisor) + 1
    bottom = 1
    for _ in range(steps):
        bottom = bottom * last
    rest = [pair_times(pair, bottom) for pair in poly]
    out = []
    for gap in reversed(range(steps)):
        # Each step divides by the last number once, and the bottom has it once for each step.
        factor = rest[-1][0] // last, rest[-1][1] // last
        taken = [NIL] * gap + cpoly_times(divisor, pair_times(factor, -1))
        rest = cpoly_sum(rest, taken)[:-1]
        out.append(factor)
    return out[::-1], bottom
