"""Side lobes: how low they can be, of all rows."""

from math import isqrt

from mastrows.forms import form_at
from mastrows.fracs import check_amount, check_content, check_whole, fraction_less, reduced
from mastrows.patterns import MOST_PARTS
from mastrows.polys import derivative, poly_product, poly_scaled, poly_sum
from mastrows.rows import MOST_MASTS


def least_lobe(many, edge):
    """The least that the greatest power at the side directions can be, the power at the turn 0 being 1."""
    check_whole(many, 1, MOST_MASTS)
    check_amount(edge)
    return lobe_of(many, edge)


def lobe_row(many, edge):
    """The row with the least lobe that sends 1 toward the turn 0."""
    check_whole(many, 1, MOST_MASTS)
    check_amount(edge)
    feeds = lobe_numbers(many, edge)
    return tuple([(reduced(feed, sum(feeds)), (0, 1)) for feed in feeds])


def can_be_below(many, edge, level):
    """Whether some row with the power 1 at the turn 0 has at most the level at all side directions."""
    check_whole(many, 1, MOST_MASTS)
    check_amount(edge)
    check_content(level)
    return fraction_less(lobe_of(many, edge), level)[0] <= 0


def edge_floor(many, level, parts):
    """The greatest whole k from 1 on for which the least lobe of the edge k / parts is at least the
    level, 0 if there is none; None if there are endlessly many.
    """
    check_whole(many, 1, MOST_MASTS)
    check_content(level)
    check_whole(parts, 1, MOST_PARTS)
    if level[0] > level[1]:
        return 0
    if level[0] == 0 or many == 1:
        return None
    # For SQUARE = k * k all is whole, and at most 0 just where the least lobe is at least the level.
    whole = parts * parts
    poly = poly_scaled(stretched_form(height_form(many), whole), level[0])
    top = level[1] * powers_of(whole, many)[-1]
    poly[0] -= top
    # To the power of many - 1 this is above TOP / level[0], and the last number of the form is at least 1.
    high = 1 << ((top // level[0]).bit_length() // (many - 1) + 1)
    return isqrt(last_not_above(poly, high))


def lobe_of(many, edge):
    """1 / Q of so many masts and the edge."""
    top, bottom = edge[0] * edge[0], edge[1] * edge[1]
    return reduced(powers_of(bottom, many)[-1], form_at(height_form(many), (top, bottom)))


def height_form(many):
    """Q as a form: a polynomial in EDGE * EDGE of the degree many - 1, its numbers whole and above 0."""
    last, here = [1], [1]
    for k in range(1, many - 1):
        factor = [2] if k % 2 == 0 else [2, 2]
        last, here = here, poly_sum(poly_product(factor, here), poly_scaled(last, -1))
    square = poly_product(here, here)
    return square if many % 2 == 1 else poly_product(square, [1, 1])


def lobe_numbers(many, edge):
    """Whole numbers that are in proportion to those of R of so many masts."""
    top, bottom = edge[0] * edge[0] + edge[1] * edge[1], edge[1] * edge[1]
    if many == 1:
        return [1]
    last, here = [2], [1, 1]
    for k in range(1, many - 1):
        # Both are multiplied by the bottom where s, TOP / BOTTOM, comes in.
        ahead, behind = (1, 1) if k % 2 == 0 else (top, bottom)
        longer = poly_sum(poly_scaled([0] + here, ahead), poly_scaled(here, ahead))
        last, here = poly_scaled(here, behind), poly_sum(longer, poly_scaled([0] + last, -behind))
    return here


def powers_of(whole, many):
    """So many powers of a whole number, from 1 on."""
    out = [1]
    for _ in range(many - 1):
        out.append(out[-1] * whole)
    return out


def stretched_form(form, whole):
    """The form times a power of the whole number, for arguments that are so much greater."""
    return [number * power for number, power in zip(form, powers_of(whole, len(form))[::-1])]


def last_not_above(poly, high):
    """The greatest whole number at which a polynomial is not above 0.

    Its numbers but the first one are above 0, and the first one is not. At the
    whole number high it is above 0.
    """
    # It is bowed, so Newton's steps, rounded up, never lead below where it is 0.
    slope = derivative(poly)
    worth = form_at(poly, (high, 1))
    while worth > 0:
        high -= max(1, worth // form_at(slope, (high, 1)))
        worth = form_at(poly, (high, 1))
    return high
