"""Rows made: even and binomial ones, and rows made of other rows."""

from math import comb

from mastrows.complexes import NOUGHT, check_complex, mirrored_number, multiplied
from mastrows.cpolys import common_bottom, cpoly_product, numbers_over, pairs_over
from mastrows.errors import InvalidComplex, InvalidNumber, TooManyMasts
from mastrows.fracs import check_whole, is_whole
from mastrows.rows import MOST_MASTS, check_row
from mastrows.turns import check_turn, numbers_turned_back


def even_row(many):
    """The row of so many feeds 1."""
    check_whole(many, 1, MOST_MASTS)
    return even_feeds(many)


def binomial_row(many):
    """The row of the numbers of the expansion of (1 + z)^(many - 1)."""
    check_whole(many, 1, MOST_MASTS)
    return tuple([((comb(many - 1, k), 1), (0, 1)) for k in range(many)])


def steered(row, turn):
    """The row that sends toward each direction, joined with the turn, what the row sends there."""
    check_row(row)
    check_turn(turn)
    return numbers_turned_back(row, turn)


def mirrored(row):
    """The conjugates of the feeds in the other order."""
    check_row(row)
    return mirror_of(row)


def back_row(row):
    """The feeds in the other order."""
    check_row(row)
    return row[::-1]


def fed(row, number):
    """The row with all feeds times a complex that is not 0."""
    check_row(row)
    check_complex(number)
    if number == NOUGHT:
        raise InvalidComplex(number)
    return fed_by(row, number)


def joined_rows(row, other):
    """The row that sends the product of what both send."""
    check_row(row)
    check_row(other)
    if len(row) + len(other) - 1 > MOST_MASTS:
        raise TooManyMasts()
    return product_row(row, other)


def spread(row, step):
    """The row with step - 1 masts with the feed 0 between each two neighbours."""
    check_row(row)
    check_step(step)
    if (len(row) - 1) * step + 1 > MOST_MASTS:
        raise TooManyMasts()
    return spread_row(row, step)


def row_of_rows(row, other):
    """The row with one like the second one in the place of each mast of the first one."""
    check_row(row)
    check_row(other)
    if len(row) * len(other) > MOST_MASTS:
        raise TooManyMasts()
    return product_row(spread_row(row, len(other)), other)


def check_step(given):
    """Refuse what is no whole number from 1 on."""
    if not is_whole(given) or given < 1:
        raise InvalidNumber(given)


def even_feeds(many):
    """So many feeds 1."""
    return (((1, 1), (0, 1)),) * many


def mirror_of(row):
    """The mirror of a row."""
    return tuple([mirrored_number(feed) for feed in row[::-1]])


def fed_by(row, number):
    """All feeds times a complex."""
    return tuple([multiplied(feed, number) for feed in row])


def product_row(row, other):
    """The product of two rows as polynomials."""
    one, two = common_bottom(row), common_bottom(other)
    return numbers_over(cpoly_product(pairs_over(row, one), pairs_over(other, two)), one * two)


def spread_row(row, step):
    """The row spread; a row of one mast has no neighbours, however great the step is."""
    out = row[:1]
    for feed in row[1:]:
        out = out + (NOUGHT,) * (step - 1) + (feed,)
    return out
