"""Rows through points, gain, and the row that hears least."""

from mastrows.complexes import NOUGHT, is_complex
from mastrows.cpolys import (NIL, common_bottom, numbers_over, pair_mirror, pair_product, pair_sum, pair_times,
                             pairs_over)
from mastrows.errors import InvalidPoints, NotAbove
from mastrows.fracs import check_whole, fraction_quotient, reduced
from mastrows.grids import solved_above, table_of_lags
from mastrows.makers import even_feeds
from mastrows.patterns import check_lags
from mastrows.rows import MOST_MASTS, check_row, mean_of, power_toward
from mastrows.turns import back_vector, check_turn, is_turn, numbers_turned_back, parts_of_point, vector_of

MOST_POINTS = 8


def noise_of(row):
    """The sum of the size squares of the feeds."""
    check_row(row)
    return mean_of(row)


def gain(row, turn):
    """The power at the turn divided by the noise."""
    check_row(row)
    check_turn(turn)
    return fraction_quotient(power_toward(row, turn), mean_of(row))


def back_wave(many, turn):
    """The row whose feeds are the powers of the conjugate of the turn's point."""
    check_whole(many, 1, MOST_MASTS)
    check_turn(turn)
    return numbers_turned_back(even_feeds(many), turn)


def row_through(many, points):
    """The row of so many masts with the least noise through all points; None if there is none."""
    check_whole(many, 1, MOST_MASTS)
    check_points(points)
    if not has_row(many, points):
        return None
    shares, bottom = shares_of_waves(many, points)
    feeds = [NIL] * many
    for share, (turn, _) in zip(shares, points):
        feeds = [pair_sum(feed, pair_product(share, pair)) for feed, pair in zip(feeds, wave_pairs(many, turn))]
    return numbers_over(feeds, bottom)


def multipliers(many, points):
    """The complexes by which the back waves of the points are multiplied in `row_through`."""
    check_whole(many, 1, MOST_MASTS)
    check_points(points)
    if not has_row(many, points):
        return None
    shares, bottom = shares_of_waves(many, points)
    stretched = [pair_times(share, stretch(many, turn)) for share, (turn, _) in zip(shares, points)]
    return numbers_over(stretched, bottom)


def least_hearing(lags, turn):
    """The row of as many masts as lags that sends 1 toward the turn and hears least."""
    check_lags(lags)
    check_turn(turn)
    parts = least_parts(lags, turn)
    if parts is None:
        raise NotAbove()
    return parts[0]


def check_points(given):
    """Refuse what is no tuple of one to eight pairs of a turn and a complex, the turns unlike."""
    if not isinstance(given, tuple):
        raise InvalidPoints(None)
    if not given:
        raise InvalidPoints(0)
    turns = []
    for k, point in enumerate(given):
        if k == MOST_POINTS or not is_point(point) or point[0] in turns:
            raise InvalidPoints(k)
        turns.append(point[0])


def is_point(value):
    """Whether a value is a pair of a turn and a complex number."""
    if not isinstance(value, tuple) or len(value) != 2:
        return False
    return is_turn(value[0]) and is_complex(value[1])


def has_row(many, points):
    """Whether there are no more points than masts, and not all complexes are 0."""
    return len(points) <= many and any([number != NOUGHT for _, number in points])


def least_parts(lags, turn):
    """The pair (ROW, MOST): the row that sends 1 toward the turn and hears least, and what it hears;
    None if the lags are not above 0.
    """
    bottom, wave = common_bottom(lags), wave_pairs(len(lags), turn)
    solved = solved_above(table_of_lags(pairs_over(lags, bottom)), wave)
    if solved is None:
        return None
    found, whole = solved
    # What it sends toward the turn is real: the table tells no other products of one row with itself.
    loudness, long = product_of_pairs(found, wave)[0], stretch(len(lags), turn)
    row = numbers_over([pair_times(pair, long) for pair in found], loudness)
    return row, reduced(whole * long * long, bottom * loudness)


def stretch(many, turn):
    """The whole number by which the pairs of a back wave are longer than its feeds."""
    whole, out = parts_of_point(vector_of(turn))[2], 1
    for _ in range(many - 1):
        out = out * whole
    return out


def wave_pairs(many, turn):
    """The back wave times the whole number of `stretch`."""
    real, side, whole = parts_of_point(back_vector(vector_of(turn)))
    out = [(1, 0)]
    for _ in range(many - 1):
        out = [pair_times(pair, whole) for pair in out] + [pair_product(out[-1], (real, side))]
    return out


def shares_of_waves(many, points):
    """Pairs and a whole number: these, divided by it, are the multipliers of the pairs of the back waves."""
    numbers = [number for _, number in points]
    bottom = common_bottom(numbers)
    waves = [wave_pairs(many, turn) for turn, _ in points]
    sides = [pair_times(pair, stretch(many, turn)) for pair, (turn, _) in zip(pairs_over(numbers, bottom), points)]
    # Line j tells what the back waves send toward the turn of point j: products with its back wave.
    table = [[product_of_pairs(other, wave) for other in waves] for wave in waves]
    shares, whole = solved_above(table, sides)
    return shares, bottom * whole


def product_of_pairs(first, second):
    """The sum of the products of the first ones and the conjugates of the second ones."""
    total = NIL
    for pair, other in zip(first, second):
        total = pair_sum(total, pair_product(pair, pair_mirror(other)))
    return total
