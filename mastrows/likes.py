"""Rows that have one power, and how many there are."""

from mastrows.complexes import NOUGHT, multiplied, quotient_of
from mastrows.cpolys import common_bottom, cpoly_quotient, greatest_cdivisor, numbers_over, pairs_over
from mastrows.forms import form_at
from mastrows.makers import mirror_of
from mastrows.patterns import check_lags, filled, form_of, is_nought, sign_row
from mastrows.polys import layers, without_top_noughts
from mastrows.rows import MOST_MASTS, check_row, lags_between, lags_from_row
from mastrows.turns import ALL


def trimmed(row):
    """The row without the noughts at its beginning and at its end."""
    check_row(row)
    return trimmed_row(row)


def same_power(row, other):
    """Whether both powers are the same at all directions."""
    check_row(row)
    check_row(other)
    return has_same_power(row, other)


def parting_turn(row, other):
    """A turn at which the powers are unlike; None if there is none."""
    check_row(row)
    check_row(other)
    return any_parting_turn(row, other)


def like_parts(row, other):
    """A triple (COMMON, FLIPPED, FACTOR): the row, trimmed, is COMMON times FLIPPED, the other
    one, trimmed, FACTOR times COMMON times the mirror of FLIPPED; None for unlike powers.
    """
    check_row(row)
    check_row(other)
    if not has_same_power(row, other):
        return None
    one, two = trimmed_row(row), trimmed_row(other)
    bottom = common_bottom(one)
    pairs = pairs_over(one, bottom)
    divisor = greatest_cdivisor(pairs, pairs_over(two, common_bottom(two)))
    quotient, below = cpoly_quotient(pairs, divisor)
    common, flipped = numbers_over(divisor, 1), numbers_over(quotient, bottom * below)
    factor = quotient_of(two[0], multiplied(common[0], mirror_of(flipped)[0]))
    return common, flipped, factor


def rows_of_power(lags):
    """How many trimmed rows have the pattern as their power, multiples by size 1 counted once."""
    check_lags(lags)
    form = form_of(lags)[0]
    if is_nought(form) or -1 in sign_row(form, ALL):
        return 0
    many = [pairs_off_the_line(layer) for layer in layers(without_top_noughts(form))] + [0]
    product = 1
    for k in range(len(many) - 1):
        # So many pairs come just k + 1 times: each of them leaves k + 2 choices.
        for _ in range(many[k] - many[k + 1]):
            product = product * (k + 2)
    return product


def trimmed_row(row):
    """The row without noughts at its ends."""
    places = [k for k, feed in enumerate(row) if feed != NOUGHT]
    return row[places[0]:places[-1] + 1]


def has_same_power(row, other):
    """Whether both have the same lags but for noughts at the end."""
    return filled(lags_from_row(row), MOST_MASTS) == filled(lags_from_row(other), MOST_MASTS)


def any_parting_turn(row, other):
    """A turn at which the powers are unlike; None if there is none."""
    form = form_of(lags_between(row, other))[0]
    if is_nought(form):
        return None
    # The difference is 0 at fewer turns than these.
    return [(k, 1) for k in range(2 * MOST_MASTS) if form_at(form, (k, 1)) != 0][0]


def pairs_off_the_line(poly):
    """The number of pairs of conjugate zeros, not real, of a polynomial with each zero once."""
    return (len(poly) - 1 - sign_row(poly, ALL).count(0)) // 2
