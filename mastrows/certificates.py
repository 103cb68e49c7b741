"""Certificates: claims that are so, with their papers."""

from mastrows.bearings import FOLDS, TELLS, any_folding_turns, word_of_reading
from mastrows.errors import NoRow, NotAbove
from mastrows.fracs import fraction_back
from mastrows.likes import like_parts, parting_turn
from mastrows.lobes import least_lobe
from mastrows.loops import dies_away, zeros_split
from mastrows.patterns import any_turn, lone_lags, sum_of
from mastrows.points import gain, multipliers, row_through
from mastrows.rows import is_null, lags_from_row, more_at, nulls_on
from mastrows.silences import feeds_without, worst_silence
from mastrows.slacks import surely_below, worst_errors
from mastrows.tables import barring_row, wave_rank
from mastrows.wishes import dark_turn, rows_for


def certify_power(row, other):
    """`same power` or `unlike power`."""
    turn = parting_turn(row, other)
    if turn is None:
        return ("same power", row, other), ()
    return ("unlike power", row, other), turn


def certify_like(row, other):
    """`like` or `unlike power`."""
    parts = like_parts(row, other)
    if parts is None:
        return ("unlike power", row, other), parting_turn(row, other)
    return ("like", row, other), parts


def certify_never(row, other, arc):
    """`never more` or `more`."""
    turn = more_at(row, other, arc)
    if turn is None:
        return ("never more", row, other, arc), ()
    return ("more", row, other, arc), turn


def certify_null(row, turn):
    """`null` or `heard there`."""
    word = "null" if is_null(row, turn) else "heard there"
    return (word, row, turn), ()


def certify_nulls(row, arc):
    """`nulls`."""
    return ("nulls", row, arc, nulls_on(row, arc)), ()


def certify_wish(lags):
    """`wished` or `dark`."""
    parts = rows_for(lags)
    if parts is None:
        return ("dark", lags), dark_turn(lags)
    return ("wished", lags), parts


def certify_sure(row, slacks, arc, level):
    """`sure` or `unsure`."""
    if surely_below(row, slacks, arc, level):
        return ("sure", row, slacks, arc, level), ()
    return ("unsure", row, slacks, arc, level), worst_errors(row, slacks, arc, level)


def certify_bearing(row, other, arc):
    """`tells`, `folds` or `same reading`."""
    word = word_of_reading(row, other, arc)
    if word == FOLDS:
        return ("folds", row, other, arc), any_folding_turns(row, other, arc)
    return ("tells" if word == TELLS else "same reading", row, other, arc), ()


def certify_silence(row, count, arc, level):
    """`stays below` or `may pass`."""
    indexes = worst_silence(row, count, arc, level)
    if indexes is None:
        return ("stays below", row, count, arc, level), ()
    power = lags_from_row(feeds_without(row, indexes))
    turn = any_turn(sum_of(power, lone_lags(fraction_back(level))), arc, 1)
    return ("may pass", row, count, arc, level), (indexes, turn)


def certify_waves(lags):
    """`of waves` or `barred`."""
    row = barring_row(lags)
    if row is None:
        return ("of waves", lags), ()
    return ("barred", lags), row


def certify_rank(lags):
    """`rank`."""
    rank = wave_rank(lags)
    if rank is None:
        raise NotAbove()
    return ("rank", lags, rank), ()


def certify_best(many, points):
    """`best`."""
    row = row_through(many, points)
    if row is None:
        raise NoRow()
    return ("best", many, points, row), multipliers(many, points)


def certify_gain(row, turn):
    """`gain`."""
    return ("gain", row, turn, gain(row, turn)), ()


def certify_lobe(many, edge):
    """`least lobe`."""
    return ("least lobe", many, edge, least_lobe(many, edge)), ()


def certify_life(row):
    """`dies away` or `stays`."""
    word = "dies away" if dies_away(row) else "stays"
    return (word, row), ()


def certify_split(row):
    """`split`."""
    return ("split", row, zeros_split(row)), ()
