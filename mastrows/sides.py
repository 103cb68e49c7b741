"""On which side of the circle the zeros of a polynomial with whole complex numbers are.

With the turn t in the place of z the circle becomes the line of all real t, and
what is inside it the half above the line. The polynomial becomes A + B i, A and
B with real numbers: their greatest common divisor has all zeros on the line,
and those that are one another's mirror images; all others are told by how often
B / A jumps from below to above (Hermite 1856, Sturm).
"""

from mastrows.cpolys import composed, without_last_noughts
from mastrows.forms import sign_changes
from mastrows.patterns import sign_row
from mastrows.polys import exact_quotient, greatest_divisor, layers, poly_scaled, without_top_noughts
from mastrows.turns import ALL

# z is ACROSS / ALONG at the turn t: 1 + t i over 1 - t i
ACROSS = ((1, 0), (0, 1))
ALONG = ((1, 0), (0, -1))


def line_parts(pairs):
    """The polynomials (A, B) with real numbers: A(t) + B(t) i is what the pairs make of the point
    of the turn t, times (1 - t i) to the power of the last index.
    """
    turned = composed(pairs, list(ACROSS), list(ALONG))
    return without_top_noughts([pair[0] for pair in turned]), without_top_noughts([pair[1] for pair in turned])


def common_part(first, second):
    """A greatest common divisor of two polynomials, one of which may be nought."""
    return greatest_divisor(first, second) if first else greatest_divisor(second, first)


def split_of(pairs):
    """How many zeros are inside the circle, on it and outside, each counted as often as it comes."""
    poly = without_last_noughts(pairs)
    real, side = line_parts(poly)
    common = common_part(real, side)
    left = max(len(real), len(side)) - len(common)
    gap = gap_of_sides(exact_quotient(real, common), exact_quotient(side, common))
    met = zeros_on_line(common)
    twins = (len(common) - 1 - met) // 2
    # Half is a zero as often as the degree is lower than that of the pairs.
    on = len(poly) - len(common) - left + met
    return (left + gap) // 2 + twins, on, (left - gap) // 2 + twins


def zeros_on_line(poly):
    """How many real zeros a polynomial has that is not nought, each counted as often as it comes."""
    return sum([sign_row(layer, ALL).count(0) for layer in layers(poly)])


def gap_of_sides(real, side):
    """By how many more of the zeros of REAL + SIDE i are above the line than below, if none are on
    it, and none are the conjugates of others.
    """
    if len(real) >= len(side):
        return -jumps(real, side)
    return jumps(side, real)


def jumps(below, above):
    """How much oftener ABOVE / BELOW jumps from below 0 to above 0 than back along all real numbers.

    The two have no zero in common, and the degree of ABOVE is not the greater one.
    """
    chain = sturm_chain(below, above)
    late = [poly[-1] for poly in chain]
    early = [poly[-1] if len(poly) % 2 == 1 else -poly[-1] for poly in chain]
    return sign_changes(early) - sign_changes(late)


def sturm_chain(first, second):
    """Both polynomials and, as long as anything is left, behind each two what is left of the first of
    them, divided by the second one, with the other sign, times a number above 0.
    """
    # These numbers keep all whole and as short as Collins' (1967) do, without looking for divisors.
    chain, lead, scale = [first], 1, 1
    while second:
        chain.append(second)
        gap = len(first) - len(second)
        divisor = second if second[-1] > 0 else poly_scaled(second, -1)
        whole = lead * power_of(scale, gap)
        rest = [-number // whole for number in left_over(first, divisor)]
        first, second, lead = second, without_top_noughts(rest), divisor[-1]
        scale = power_of(lead, gap) // power_of(scale, gap - 1) if gap > 0 else scale
    return chain


def left_over(poly, divisor):
    """What is left of the polynomial, divided by the divisor, times its last number for each step."""
    rest, last = list(poly), divisor[-1]
    for gap in reversed(range(len(poly) - len(divisor) + 1)):
        top = rest.pop()
        rest = [number * last for number in rest]
        for k in range(len(divisor) - 1):
            rest[k + gap] -= top * divisor[k]
    return rest


def power_of(whole, count):
    """A whole number to the power of count."""
    total = 1
    for _ in range(count):
        total = total * whole
    return total
