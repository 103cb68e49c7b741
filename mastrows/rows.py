"""Rows of masts: what they send, their power, lags and nulls."""

from mastrows.complexes import NOUGHT, is_complex, square_of_size
from mastrows.cpolys import (NIL, common_bottom, lag_pairs, numbers_over, pair_product, pair_sum, pair_times,
                             pairs_over)
from mastrows.errors import InvalidRow
from mastrows.patterns import any_turn, difference_of, peak_count, sign_row, sign_row_of
from mastrows.sides import common_part, line_parts
from mastrows.turns import check_arc, check_turn, parts_of_point, vector_of

MOST_MASTS = 8


def is_row(value):
    """Whether a value, whatever it is, is a row."""
    if not isinstance(value, tuple) or not 1 <= len(value) <= MOST_MASTS:
        return False
    return all([is_complex(feed) for feed in value]) and has_feed(value)


def has_feed(feeds):
    """Whether some complex number is not 0."""
    return any([feed != NOUGHT for feed in feeds])


def check_row(given):
    """Refuse what is no row."""
    if not is_row(given):
        raise InvalidRow(given)


def sent(row, turn):
    """What the row sends toward the turn, a complex number."""
    check_row(row)
    check_turn(turn)
    return sent_toward(row, turn)


def power_at(row, turn):
    """The size square of what the row sends toward the turn."""
    check_row(row)
    check_turn(turn)
    return power_toward(row, turn)


def mean_power(row):
    """The sum of the size squares of the feeds."""
    check_row(row)
    return mean_of(row)


def lags_of(row):
    """The lags of the row, as many as its feeds."""
    check_row(row)
    return lags_from_row(row)


def is_null(row, turn):
    """Whether the row sends 0 toward the turn."""
    check_row(row)
    check_turn(turn)
    return sent_toward(row, turn) == NOUGHT


def nulls_on(row, arc):
    """The number of directions of the arc toward which nothing is sent."""
    check_row(row)
    check_arc(arc)
    return null_count(row, arc)


def lobes_of(row):
    """The number of peaks of the power."""
    check_row(row)
    return peak_count(lags_from_row(row))


def never_more(row, other, arc):
    """Whether the first power is at no direction of the arc above the other one."""
    check_row(row)
    check_row(other)
    check_arc(arc)
    return 1 not in sign_row_of(lags_between(row, other), arc)


def more_at(row, other, arc):
    """A turn of the arc at which the first power is above the other one; None if there is none."""
    check_row(row)
    check_row(other)
    check_arc(arc)
    return any_turn(lags_between(row, other), arc, 1)


def sent_toward(feeds, turn):
    """The sum of the feeds, each times the power of the turn's point, by its index."""
    bottom = common_bottom(feeds)
    real, side, whole = parts_of_point(vector_of(turn))
    total, below = NIL, 1
    for pair in reversed(pairs_over(feeds, bottom)):
        # The bottom grows with each step but the first, in which there is nothing to turn yet.
        total = pair_sum(pair_product(total, (real, side)), pair_times(pair, below))
        below = below * whole
    return numbers_over([total], bottom * (below // whole))[0]


def power_toward(feeds, turn):
    """The size square of what is sent toward the turn."""
    return square_of_size(sent_toward(feeds, turn))


def mean_of(feeds):
    """The mean power of feeds, 0 if all are noughts."""
    return lags_from_row(feeds)[0][0]


def lags_from_row(feeds):
    """The lags of feeds that may all be noughts."""
    bottom = common_bottom(feeds)
    return numbers_over(lag_pairs(pairs_over(feeds, bottom)), bottom * bottom)


def lags_between(row, other):
    """Lags with the pattern that is the power of the row less that of the other one."""
    return difference_of(lags_from_row(row), lags_from_row(other))


def null_count(row, arc):
    """The number of nulls of the row on the arc."""
    return sign_row(null_form(row), arc).count(0)


def null_form(row):
    """A form that is 0 just toward the nulls of the row."""
    first, second = line_parts(pairs_over(row, common_bottom(row)))
    common = common_part(first, second)
    # Both begin below the top of the form just if nothing is sent toward half.
    return common if max(len(first), len(second)) == len(row) else common + [0]
