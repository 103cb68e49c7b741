"""Tables that were heard: whether waves make them, how many, and how strong one can be."""

from mastrows.complexes import NOUGHT
from mastrows.cpolys import common_bottom, lag_pairs, numbers_over, pair_product, pairs_over
from mastrows.errors import TooManyMasts
from mastrows.fracs import check_amount, check_whole, reduced
from mastrows.ladders import barring_pairs, climb, rank_of
from mastrows.patterns import MOST_LAGS, check_lags
from mastrows.points import least_parts
from mastrows.rows import check_row, null_count, sent_toward
from mastrows.turns import back_turn, check_arc, check_turn, numbers_turned_back


def heard(lags, row):
    """What the row hears of the lags, a fraction."""
    check_lags(lags)
    check_row(row)
    if len(row) > len(lags):
        raise TooManyMasts()
    return heard_by(lags, row)


def comes_of_waves(lags):
    """Whether the lags are a sum of waves."""
    check_lags(lags)
    return rank_of(lags) is not None


def barring_row(lags):
    """A row of at most as many masts as lags that hears less than 0; None if there is none."""
    check_lags(lags)
    return row_that_bars(lags)


def wave_rank(lags):
    """The rank of the lags; None if they do not come of waves."""
    check_lags(lags)
    return rank_of(lags)


def silent_row(lags):
    """The row with the last feed 1 of one mast more than the rank, which hears nothing; None if the
    lags are above 0, or do not come of waves.
    """
    check_lags(lags)
    return row_of_silence(lags)


def waves_on(lags, arc):
    """How many of the waves come from directions on the arc; None where `silent_row` is None."""
    check_lags(lags)
    check_arc(arc)
    row = row_of_silence(lags)
    return None if row is None else null_count(row, arc)


def most_from(lags, turn):
    """The greatest power of a wave from the turn among waves that make the lags; None if none make them."""
    check_lags(lags)
    check_turn(turn)
    rank = rank_of(lags)
    if rank is None:
        return None
    if rank == len(lags):
        return least_parts(lags, turn)[1]
    if sent_toward(row_of_silence(lags), turn) != NOUGHT:
        return (0, 1)
    # So many lags are above 0, and the waves are their only lot of so many with one from there.
    return least_parts(lags[:rank], turn)[1]


def wave_lags(amount, turn, many):
    """So many lags of a wave of the power told by the amount from the turn."""
    check_amount(amount)
    check_turn(turn)
    check_whole(many, 1, MOST_LAGS)
    return numbers_turned_back(((amount, (0, 1)),) * many, back_turn(turn))


def heard_by(lags, row):
    """What a row of at most as many masts as lags hears."""
    bottom, below = common_bottom(lags), common_bottom(row)
    total = 0
    for j, (pair, other) in enumerate(zip(pairs_over(lags, bottom), lag_pairs(pairs_over(row, below)))):
        real = pair_product(pair, other)[0]
        total += real if j == 0 else 2 * real
    return reduced(total, bottom * below * below)


def row_that_bars(lags):
    """What `barring_row` tells."""
    pairs = barring_pairs(lags)
    return None if pairs is None else numbers_over(pairs, 1)


def row_of_silence(lags):
    """What `silent_row` tells."""
    rank = rank_of(lags)
    if rank is None or rank == len(lags):
        return None
    row, _ = climb(lags)[0][-1]
    return numbers_over(row, row[-1][0])
