"""Rows fed back: where their zeros are, and whether what they make dies away."""

from mastrows.complexes import NOUGHT, is_complex
from mastrows.cpolys import (NIL, common_bottom, numbers_over, pair_mirror, pair_product, pair_sum, pair_times,
                             pairs_over, without_divisor)
from mastrows.errors import InvalidBeginning, InvalidRow
from mastrows.fracs import check_whole
from mastrows.rows import check_row
from mastrows.sides import split_of

MOST_RUN = 60


def zeros_split(row):
    """The triple (INSIDE, ON, OUTSIDE) of the numbers of the row's zeros."""
    check_row(row)
    return split_of_row(row)


def dies_away(row):
    """Whether what the row makes, fed back, dies away for all beginnings."""
    check_loop(row)
    return all_outside(row)


def is_quickest(row):
    """Whether the row's first feeds have at least the power of those of all rows of the same power."""
    check_row(row)
    return split_of_row(row)[0] == 0


def loop_run(row, beginning, count):
    """So many numbers that the row makes, fed back, behind the beginning."""
    check_loop(row)
    check_beginning(beginning, row)
    check_whole(count, 0, MOST_RUN)
    return run_of(row, beginning, count)


def check_loop(given):
    """Refuse what is no row, and a row whose first feed is 0."""
    check_row(given)
    if given[0] == NOUGHT:
        raise InvalidRow(given)


def check_beginning(given, row):
    """Refuse what is no tuple of as many complex numbers as the row's degree."""
    if not isinstance(given, tuple) or len(given) != degree_of(row):
        raise InvalidBeginning(None)
    for k, number in enumerate(given):
        if not is_complex(number):
            raise InvalidBeginning(k)


def degree_of(row):
    """The index of the last feed that is not 0."""
    return [k for k, feed in enumerate(row) if feed != NOUGHT][-1]


def split_of_row(row):
    """What `zeros_split` tells."""
    return split_of(pairs_over(row, common_bottom(row)))


def all_outside(row):
    """What `dies_away` tells of a row whose first feed is not 0."""
    inside, on, _ = split_of_row(row)
    return inside == 0 and on == 0


def run_of(row, beginning, count):
    """What `loop_run` tells."""
    degree = degree_of(row)
    pairs = pairs_over(row[:degree + 1], common_bottom(row))
    # Times the conjugate of the first feed the first one is whole, and above 0.
    feeds = without_divisor([pair_product(pair, pair_mirror(pairs[0])) for pair in pairs])
    whole, bottom = feeds[0][0], common_bottom(beginning)
    made, out = pairs_over(beginning, bottom), []
    for _ in range(count):
        following = NIL
        for k in range(degree):
            following = pair_sum(following, pair_product(feeds[degree - k], made[k]))
        # All that is still wanted stands over one bottom, which grows with each step.
        bottom = bottom * whole
        made = [pair_times(pair, whole) for pair in made[1:]] + [pair_times(following, -1)]
        out.extend(numbers_over(made[-1:], bottom))
    return tuple(out)
