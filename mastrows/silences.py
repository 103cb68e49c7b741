"""Masts that fall silent."""

from itertools import combinations

from mastrows.complexes import NOUGHT
from mastrows.errors import InvalidIndexes
from mastrows.fracs import check_content, check_whole, fraction_back, is_whole
from mastrows.patterns import lone_lags, sign_row_of, sum_of
from mastrows.rows import check_row, lags_from_row
from mastrows.turns import check_arc

MOST_SILENT = 2


def without(row, indexes):
    """The feeds with noughts in the place of some; all may be noughts then."""
    check_row(row)
    check_indexes(indexes, row)
    return feeds_without(row, indexes)


def stays_below(row, count, arc, level):
    """Whether the power is at most the level on the arc, whichever so many masts are silent."""
    check_row(row)
    check_whole(count, 0, MOST_SILENT)
    check_arc(arc)
    check_content(level)
    return least_silence(row, count, arc, level) is None


def worst_silence(row, count, arc, level):
    """The least tuple of so many indexes without whose masts the power is above the level somewhere
    on the arc; None if there is none.
    """
    check_row(row)
    check_whole(count, 0, MOST_SILENT)
    check_arc(arc)
    check_content(level)
    return least_silence(row, count, arc, level)


def check_indexes(given, row):
    """Refuse what is no ascending tuple of indexes of feeds."""
    if not isinstance(given, tuple):
        raise InvalidIndexes(None)
    least = 0
    for k, index in enumerate(given):
        if not is_whole(index) or not least <= index < len(row):
            raise InvalidIndexes(k)
        least = index + 1


def feeds_without(row, indexes):
    """The feeds with noughts at the indexes."""
    return tuple([NOUGHT if k in indexes else feed for k, feed in enumerate(row)])


def least_silence(row, count, arc, level):
    """What `worst_silence` tells."""
    silent = min(count, len(row))
    less = lone_lags(fraction_back(level))
    for indexes in index_tuples(len(row), silent):
        power = lags_from_row(feeds_without(row, indexes))
        if 1 in sign_row_of(sum_of(power, less), arc):
            return indexes
    return None


def index_tuples(many, silent):
    """All ascending tuples of so many of the indexes below many, in their order."""
    return list(combinations(range(many), silent))
