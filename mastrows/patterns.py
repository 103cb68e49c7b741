"""Lags and their patterns: real numbers at all directions, decided on arcs."""

from mastrows.complexes import NOUGHT, added, is_complex, multiplied
from mastrows.cpolys import common_bottom, cpoly_mirror, cpoly_product, numbers_over, pair_times, pairs_over
from mastrows.errors import InvalidLags, InvalidSign
from mastrows.forms import core_of, form_at, middle_of, narrowed, sign_at, stretches
from mastrows.fracs import check_fraction, check_whole, is_whole, reduced
from mastrows.polys import poly_product, poly_scaled, poly_sum
from mastrows.turns import ALL, check_arc, check_turn, numbers_turned_back, turn_toward, vector_of, ways_of

ENDLESS = "endless"
MOST_LAGS = 8
MOST_PARTS = 1000000


def is_lags(value):
    """Whether a value, whatever it is, is lags."""
    if not isinstance(value, tuple) or not 1 <= len(value) <= MOST_LAGS:
        return False
    return all([is_complex(number) for number in value]) and value[0][1] == (0, 1)


def check_lags(given):
    """Refuse what is no lags."""
    if not is_lags(given):
        raise InvalidLags(given)


def check_sign(given):
    """Refuse what is neither 1 nor -1."""
    if not is_whole(given) or given not in (1, -1):
        raise InvalidSign(given)


def pattern_at(lags, turn):
    """The pattern at a turn, a fraction."""
    check_lags(lags)
    check_turn(turn)
    return value_at(lags, turn)


def signs_on(lags, arc):
    """The sign row of the pattern on the arc."""
    check_lags(lags)
    check_arc(arc)
    return sign_row_of(lags, arc)


def zeros_on(lags, arc):
    """The number of directions of the arc at which the pattern is 0; `endless` for nought."""
    check_lags(lags)
    check_arc(arc)
    form = form_of(lags)[0]
    if is_nought(form):
        return ENDLESS
    return sign_row(form, arc).count(0)


def turn_with(lags, arc, sign):
    """A turn of the arc at which the pattern has the sign; None if there is none."""
    check_lags(lags)
    check_arc(arc)
    check_sign(sign)
    return any_turn(lags, arc, sign)


def greatest_floor(lags, arc, parts):
    """The greatest whole k with k / parts up to the greatest number of the pattern on the arc."""
    check_lags(lags)
    check_arc(arc)
    check_whole(parts, 1, MOST_PARTS)
    return highest(lags, arc, parts)


def least_floor(lags, arc, parts):
    """The greatest whole k with k / parts up to the least number of the pattern on the arc."""
    check_lags(lags)
    check_arc(arc)
    check_whole(parts, 1, MOST_PARTS)
    return lowest(lags, arc, parts)


def peaks_of(lags):
    """The number of directions at which the slope goes from above 0 to below 0."""
    check_lags(lags)
    return peak_count(lags)


def slope_lags(lags):
    """The lags of the slope of the pattern."""
    check_lags(lags)
    return slope_of(lags)


def lags_times(lags, fraction):
    """The lags, each times the fraction."""
    check_lags(lags)
    check_fraction(fraction)
    return times_of(lags, fraction)


def turned_lags(lags, turn):
    """The lags of the pattern, turned by the turn."""
    check_lags(lags)
    check_turn(turn)
    return numbers_turned_back(lags, turn)


def lags_sum(lags, other):
    """The sum of both, as many lags as the longer ones."""
    check_lags(lags)
    check_lags(other)
    return sum_of(lags, other)


def value_at(lags, turn):
    """The pattern at a turn."""
    form, bottom = form_of(lags)
    vector = vector_of(turn)
    return reduced(form_at(form, vector), bottom * weight_at(form, vector))


def sign_row_of(lags, arc):
    """The sign row of the pattern on the arc."""
    return sign_row(form_of(lags)[0], arc)


def any_turn(lags, arc, sign):
    """A turn of the arc at which the pattern has the sign; None if there is none."""
    form = form_of(lags)[0]
    if is_nought(form):
        return None
    for left, right, count in stretches_on(form, arc):
        for vector in told_vectors(left, right, count):
            if vector is not None and sign_at(form, vector) == sign:
                return turn_toward(vector)
    return None


def highest(lags, arc, parts):
    """The greatest whole k with k / parts up to the greatest number of the pattern on the arc."""
    met = max(quarters_met(lags, arc, parts))
    high = (met + 2) // 4
    if high == met // 4 or max(signs_less(lags, arc, high, parts)) >= 0:
        return high
    return high - 1


def lowest(lags, arc, parts):
    """The greatest whole k with k / parts up to the least number of the pattern on the arc."""
    met = min(quarters_met(lags, arc, parts))
    high = met // 4
    if high == (met - 2) // 4 or min(signs_less(lags, arc, high, parts)) >= 0:
        return high
    return high - 1


def peak_count(lags):
    """The number of peaks of the pattern."""
    row = sign_row_of(slope_of(lags), ALL)
    # The row goes round: the last sign is also the one ahead of the first.
    ahead = (row[-1],) + row[:-1]
    behind = row[1:] + (row[0],)
    return list(zip(ahead, row, behind)).count((1, 0, -1))


def slope_of(lags):
    """The lags of the slope: each one times i and its index."""
    return tuple([multiplied(number, ((0, 1), (k, 1))) for k, number in enumerate(lags)])


def times_of(lags, fraction):
    """The lags, each times the fraction."""
    factor = (fraction, (0, 1))
    return tuple([multiplied(number, factor) for number in lags])


def difference_of(first, second):
    """The lags of the first pattern less the second one."""
    return sum_of(first, times_of(second, (-1, 1)))


def product_of(first, second):
    """The lags of the product of two patterns; there may be more than lags have otherwise."""
    one, two = common_bottom(first), common_bottom(second)
    all_pairs = cpoly_product(both_sides(pairs_over(first, one)), both_sides(pairs_over(second, two)))
    return numbers_over(all_pairs[len(all_pairs) // 2:], one * two)


def both_sides(pairs):
    """The pairs c_(-n) to c_n of the pairs c_0 to c_n."""
    return cpoly_mirror(pairs[1:]) + pairs


def lone_lags(fraction):
    """Lags with the fraction as their pattern."""
    return ((fraction, (0, 1)),)


def sum_of(first, second):
    """The sum of two lags, as many as the longer ones."""
    size = max(len(first), len(second))
    return tuple([added(one, two) for one, two in zip(filled(first, size), filled(second, size))])


def filled(lags, size):
    """The lags with noughts at the end, so many in all."""
    return lags + (NOUGHT,) * (size - len(lags))


def form_of(lags):
    """The form that is the pattern times the weight and a whole number, and that number.

    Noughts at the end of the lags are left out. At a vector whose turn has the
    point z the form is, n being the last index, the number times the weight
    times the sum of RE (c_j * z^j), for j from 1 on twice. With x / y as the
    turn z is (y + x i)^2 / (x^2 + y^2): the sum is made from the last lag on.
    """
    size = max([1] + [k + 1 for k, number in enumerate(lags) if number != NOUGHT])
    bottom = common_bottom(lags)
    pairs = pairs_over(lags[:size], bottom)
    real, imaginary, weight = [], [], [1]
    for k in reversed(range(size)):
        top, side = pairs[k] if k == 0 else pair_times(pairs[k], 2)
        turned = poly_sum(poly_product(real, [1, 0, -1]), poly_product(imaginary, [0, -2]))
        sided = poly_sum(poly_product(real, [0, 2]), poly_product(imaginary, [1, 0, -1]))
        real = poly_sum(turned, poly_scaled(weight, top))
        imaginary = poly_sum(sided, poly_scaled(weight, side))
        weight = poly_product(weight, [1, 0, 1])
    return real, bottom


def weight_at(form, vector):
    """(x^2 + y^2)^n at a vector, for the form of n + 1 lags."""
    whole = vector[0] * vector[0] + vector[1] * vector[1]
    total = 1
    for _ in range(len(form) // 2):
        total = total * whole
    return total


def is_nought(form):
    """Whether the form of some lags is 0 everywhere."""
    return form == [0]


def stretches_on(form, arc):
    """The arc as stretches with at most one zero of the form, which is not nought, in each."""
    core = core_of(form)
    out = []
    for left, right in ways_of(arc):
        out.extend(stretches(core, left, right))
    return out


def told_vectors(left, right, count):
    """The vectors at which a stretch is looked at; None is in the place of a zero between."""
    # Without a zero between, the ends may both be zeros: then only the middle shows the sign.
    return left, None if count else middle_of(left, right), right


def sign_row(form, arc):
    """The sign row on the arc of the pattern that has this form."""
    if is_nought(form):
        return (0,)
    row = []
    for left, right, count in stretches_on(form, arc):
        for vector in told_vectors(left, right, count):
            sign = 0 if vector is None else sign_at(form, vector)
            if not row or row[-1] != sign:
                row.append(sign)
    # Once round half is met again; if the pattern is 0 there, it counts only as the first.
    if arc == ALL and row[-1] == 0:
        row.pop()
    return tuple(row)


def signs_less(lags, arc, k, parts):
    """The sign row on the arc of the pattern less k / parts."""
    return sign_row_of(sum_of(lags, lone_lags(reduced(-k, parts))), arc)


def quarters_met(lags, arc, parts):
    """Whole numbers, the floors of 4 * parts times what the pattern is at some turns of the arc.

    The turns are so near to those of the greatest and the least number of the
    pattern on the arc that 4 * parts times these is at most 2 off.
    """
    form, bottom = form_of(lags)
    vectors = turning_vectors(lags, arc, 4 * parts * steepness(lags))
    return [4 * parts * form_at(form, vector) // (bottom * weight_at(form, vector)) for vector in vectors]


def steepness(lags):
    """A whole number that the slope is nowhere above, and its opposite neither."""
    total = 0
    for k, (real, imaginary) in enumerate(lags):
        total += 2 * k * (2 + abs(real[0]) // real[1] + abs(imaginary[0]) // imaginary[1])
    return total


def turning_vectors(lags, arc, steep):
    """Vectors of turns of the arc: its ends, and about each zero of the slope within it some
    at which the angle to it, by the angle of vectors, times steep is at most 1.
    """
    slope = form_of(slope_of(lags))[0]
    if is_nought(slope):
        return [ways_of(arc)[0][0]]
    core = core_of(slope)
    out = []
    for left, right, count in stretches_on(slope, arc):
        out.extend([left, right])
        if count:
            out.extend(narrowed(core, left, right, steep))
    return out
