"""Wished patterns: which ones are powers of rows, and of which rows."""

from mastrows.cpolys import composed, cpoly_product, numbers_over
from mastrows.factors import weighted_pairs
from mastrows.fracs import check_whole, fraction_product, reduced
from mastrows.patterns import MOST_PARTS, any_turn, check_lags, form_of, is_nought, lowest, sign_row
from mastrows.polys import exact_quotient, layers, poly_product, without_top_noughts
from mastrows.turns import ALL

# At the direction z the turn is ACROSS / ALONG: i - i z over 1 + z.
ACROSS = ((0, 1), (0, -1))
ALONG = ((1, 0), (1, 0))


def is_wished(lags):
    """Whether the pattern is nowhere below 0."""
    check_lags(lags)
    return -1 not in sign_row(form_of(lags)[0], ALL)


def rows_for(lags):
    """Pairs (WEIGHT, ROW) whose weighted powers add up to the pattern; None if it is somewhere below 0."""
    check_lags(lags)
    return weighted_rows(lags)


def dark_turn(lags):
    """A turn at which the pattern is below 0; None if there is none."""
    check_lags(lags)
    return any_turn(lags, ALL, -1)


def least_raise(lags, parts):
    """The least whole k from 0 on so that the pattern plus k / parts is nowhere below 0."""
    check_lags(lags)
    check_whole(parts, 1, MOST_PARTS)
    return max(0, -lowest(lags, ALL, parts))


def weighted_rows(lags):
    """What `rows_for` tells."""
    form, bottom = form_of(lags)
    if is_nought(form):
        return ()
    if -1 in sign_row(form, ALL):
        return None
    twice, once = parts_by_squares(form)
    row, below = row_of_form(twice)
    pairs, under = row_of_form(once)
    lags_above = pairs[len(pairs) // 2:]
    weight = weight_between(form, bottom, twice, once)
    out = []
    for top, low, poly in weighted_pairs(lags_above):
        share = fraction_product(weight, reduced(top, low * under))
        out.append((share, numbers_over(cpoly_product(row, poly), below)))
    return tuple(out)


def parts_by_squares(form):
    """Forms (TWICE, ONCE), the form being TWICE * TWICE * ONCE times an amount, and ONCE above 0.

    The form is not nought, and nowhere below 0.
    """
    # Its last number is above 0, where the polynomial goes to for great turns.
    poly = without_top_noughts(form)
    every = layers(poly)
    twice, once = [1], [1]
    for k, layer in enumerate(every):
        if k % 2 == 1:
            twice = poly_product(twice, layer)
        else:
            deeper = every[k + 1] if k + 1 < len(every) else [1]
            once = poly_product(once, exact_quotient(layer, deeper))
    return twice + [0] * ((len(form) - len(poly)) // 2), once


def row_of_form(form):
    """The form at (ACROSS, ALONG), as pairs, and a whole number.

    The row of the pairs, divided by this number, has the power that is the
    square of the form divided by that of the weight. A form that is a pattern
    times the weight leads to the lags c_(-m) to c_m times the number.
    """
    pairs = composed([(number, 0) for number in form], list(ACROSS), list(ALONG))
    return pairs, 1 << len(form) - 1


def weight_between(form, bottom, twice, once):
    """The form over the bottom, divided by TWICE * TWICE * ONCE."""
    square = poly_product(poly_product(twice, twice), once)
    top, low = [without_top_noughts(numbers)[-1] for numbers in (form, square)]
    return reduced(top, low * bottom)
