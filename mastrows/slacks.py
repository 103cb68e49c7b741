"""Feeds that are off: what a row sends for all errors within its slacks."""

from math import isqrt

from mastrows.complexes import NOUGHT, added, square_of_size, stretched
from mastrows.cpolys import common_bottom, pairs_over
from mastrows.errors import InvalidSlacks
from mastrows.fracs import (check_content, check_whole, fraction_back, fraction_less, fraction_product,
                            fraction_quotient, fraction_sum, is_content)
from mastrows.patterns import (MOST_PARTS, any_turn, difference_of, lone_lags, lowest, product_of, sign_row_of, sum_of,
                               times_of)
from mastrows.rows import check_row, lags_between, lags_from_row, power_toward, sent_toward
from mastrows.turns import ALL, HALF, check_arc, check_turn, numbers_turned_back, point_toward, turn_toward, vector_of


def surely_below(row, slacks, arc, level):
    """Whether for all errors the size is at most the level at all directions of the arc."""
    check_row(row)
    check_slacks(slacks, row)
    check_arc(arc)
    check_content(level)
    return stays_within(row, slacks, arc, level)


def surely_above(row, slacks, arc, level):
    """Whether for all errors the size is above the level at all directions of the arc."""
    check_row(row)
    check_slacks(slacks, row)
    check_arc(arc)
    check_content(level)
    reach = fraction_sum(level, sum_of_slacks(slacks))
    return sign_row_of(lags_less_square(row, reach), arc) == (1,)


def may_be_silent(row, slacks, turn):
    """Whether with some errors nothing is sent toward the turn."""
    check_row(row)
    check_slacks(slacks, row)
    check_turn(turn)
    return can_be_silent(row, slacks, turn)


def silent_errors(row, slacks, turn):
    """Errors within the slacks with which nothing is sent toward the turn; None if there are none."""
    check_row(row)
    check_slacks(slacks, row)
    check_turn(turn)
    wave = sent_toward(row, turn)
    if wave == NOUGHT:
        return (NOUGHT,) * len(row)
    if not can_be_silent(row, slacks, turn):
        return None
    return errors_toward(stretched(wave, (-1, 1)), slacks, turn)


def surely_no_more(row, slacks, other, others, arc):
    """Whether for all errors of both rows the first size is at most the other one on the arc."""
    check_row(row)
    check_slacks(slacks, row)
    check_row(other)
    check_slacks(others, other)
    check_arc(arc)
    reach = fraction_sum(sum_of_slacks(slacks), sum_of_slacks(others))
    square = fraction_product(reach, reach)
    beyond = difference_of(lags_between(other, row), lone_lags(square))
    if -1 in sign_row_of(beyond, arc):
        return False
    fourfold = times_of(lags_from_row(row), fraction_product((4, 1), square))
    return -1 not in sign_row_of(difference_of(product_of(beyond, beyond), fourfold), arc)


def slack_floor(row, arc, level, parts):
    """The greatest whole k such that with slacks k / parts the size is at most the level on the arc."""
    check_row(row)
    check_arc(arc)
    check_content(level)
    check_whole(parts, 1, MOST_PARTS)
    # With whole / below for the level less all slacks, its square is to be at least the greatest power.
    below = level[1] * parts
    most = -lowest(times_of(lags_from_row(row), (-1, 1)), arc, below * below)
    root = isqrt(most)
    least = root if root * root == most else root + 1
    room = level[0] * parts - least
    return room // (len(row) * level[1]) if room >= 0 else None


def check_slacks(given, row):
    """Refuse what is no tuple of as many contents as the row has feeds."""
    if not isinstance(given, tuple) or len(given) != len(row):
        raise InvalidSlacks(None)
    for k, slack in enumerate(given):
        if not is_content(slack):
            raise InvalidSlacks(k)


def sum_of_slacks(slacks):
    """The sum of all slacks."""
    total = (0, 1)
    for slack in slacks:
        total = fraction_sum(total, slack)
    return total


def lags_less_square(row, size):
    """The lags of the power less the square of a size."""
    return sum_of(lags_from_row(row), lone_lags(fraction_back(fraction_product(size, size))))


def stays_within(row, slacks, arc, level):
    """What `surely_below` tells."""
    room = fraction_less(level, sum_of_slacks(slacks))
    return room[0] >= 0 and 1 not in sign_row_of(lags_less_square(row, room), arc)


def can_be_silent(row, slacks, turn):
    """What `may_be_silent` tells."""
    total = sum_of_slacks(slacks)
    return fraction_less(power_toward(row, turn), fraction_product(total, total))[0] <= 0


def errors_toward(wave, slacks, turn):
    """Errors, in size the slacks times one share, that send the wave toward the turn."""
    total = sum_of_slacks(slacks)
    shares = [stretched(wave, fraction_quotient(slack, total)) for slack in slacks]
    return numbers_turned_back(shares, turn)


def worst_errors(row, slacks, arc, level):
    """A turn of the arc and errors within the slacks with which the size is above the level there;
    the size is known not to be surely at most the level.
    """
    total = sum_of_slacks(slacks)
    room = fraction_less(level, total)
    if room[0] >= 0:
        turn = any_turn(lags_less_square(row, room), arc, 1)
    else:
        turn = HALF if arc == ALL else arc[0]
    wave, most = sent_toward(row, turn), fraction_product(level, level)
    bits, unit = 8, unit_near(wave, 8)
    while fraction_less(square_of_size(added(wave, stretched(unit, total))), most)[0] <= 0:
        bits = 2 * bits
        unit = unit_near(wave, bits)
    return turn, numbers_turned_back([stretched(unit, slack) for slack in slacks], turn)


def unit_near(number, bits):
    """A complex number of size 1 that has nearly the angle of the number, the nearer the more bits."""
    if number == NOUGHT:
        return (1, 1), (0, 1)
    real, side = pairs_over([number], common_bottom([number]))[0]
    size = isqrt((real * real + side * side) << 2 * bits)
    real, side = real << bits, side << bits
    # The tangent of half the angle is SIDE / (SIZE + REAL), which is (SIZE - REAL) / SIDE, too.
    vector = (side, size + real) if real > 0 else (size - real, side)
    return point_toward(vector_of(turn_toward(vector)))
