"""The checker of claims and their papers.

What is wrong in a claim makes the functions that tell such things raise: then
it is no claim. What is wrong in a paper makes them raise, too, or is looked
for here.
"""

from mastrows.bearings import SAME, TELLS, check_heard, is_beyond, reading_toward, word_of_reading
from mastrows.complexes import NOUGHT, added, check_complex, is_complex, multiplied, square_of_size
from mastrows.errors import MastError
from mastrows.fracs import (check_content, check_whole, fraction_less, fraction_product, is_amount, is_fraction,
                            is_whole)
from mastrows.likes import same_power, trimmed_row
from mastrows.lobes import least_lobe
from mastrows.loops import dies_away, zeros_split
from mastrows.makers import fed_by, mirror_of, product_row
from mastrows.patterns import MOST_LAGS, check_lags, filled, lone_lags, pattern_at, sum_of, times_of
from mastrows.points import back_wave, check_points, gain
from mastrows.rows import (MOST_MASTS, check_row, is_null, is_row, lags_from_row, never_more, nulls_on, power_at,
                           power_toward, sent_toward)
from mastrows.silences import MOST_SILENT, check_indexes, feeds_without, stays_below
from mastrows.slacks import check_slacks, surely_below
from mastrows.tables import comes_of_waves, heard, wave_rank
from mastrows.turns import check_arc, is_ahead, is_on


def has_parts(value, many):
    """Whether a value is a tuple of so many things."""
    return isinstance(value, tuple) and len(value) == many


def is_above(first, second):
    """Whether the first fraction is above the second one."""
    return fraction_less(first, second)[0] > 0


def same_power_is_so(paper, row, other):
    """They have the same power at all directions."""
    return same_power(row, other) and has_parts(paper, 0)


def unlike_power_is_so(paper, row, other):
    """At the turn of the paper they have not."""
    return power_at(row, paper) != power_at(other, paper)


def like_is_so(paper, row, other):
    """The parts in the paper are those of the row and, one of them flipped, of the other one."""
    check_row(row)
    check_row(other)
    if not has_parts(paper, 3):
        return False
    common, flipped, factor = paper
    check_row(common)
    check_row(flipped)
    check_complex(factor)
    if trimmed_row(common) != common or trimmed_row(flipped) != flipped or square_of_size(factor) != (1, 1):
        return False
    turned = fed_by(product_row(common, mirror_of(flipped)), factor)
    return trimmed_row(row) == product_row(common, flipped) and trimmed_row(other) == turned


def never_more_is_so(paper, row, other, arc):
    """The first power is nowhere on the arc above the second one."""
    return never_more(row, other, arc) and has_parts(paper, 0)


def more_is_so(paper, row, other, arc):
    """At the turn of the paper it is."""
    return is_on(arc, paper) and is_above(power_at(row, paper), power_at(other, paper))


def null_is_so(paper, row, turn):
    """Nothing is sent toward the turn."""
    return is_null(row, turn) and has_parts(paper, 0)


def heard_there_is_so(paper, row, turn):
    """Something is sent toward the turn."""
    return not is_null(row, turn) and has_parts(paper, 0)


def nulls_is_so(paper, row, arc, count):
    """So many directions of the arc have none of the power."""
    return is_whole(count) and nulls_on(row, arc) == count and has_parts(paper, 0)


def wished_is_so(paper, lags):
    """The powers of the rows in the paper, each times its weight, add up to the pattern."""
    check_lags(lags)
    if not isinstance(paper, tuple):
        return False
    total = lone_lags((0, 1))
    for part in paper:
        if not has_parts(part, 2) or not is_amount(part[0]) or not is_row(part[1]):
            return False
        total = sum_of(total, times_of(lags_from_row(part[1]), part[0]))
    return filled(total, MOST_LAGS) == filled(lags, MOST_LAGS)


def dark_is_so(paper, lags):
    """At the turn of the paper the pattern is below 0."""
    return pattern_at(lags, paper)[0] < 0


def sure_is_so(paper, row, slacks, arc, level):
    """For all errors the size is at most the level on the arc."""
    return surely_below(row, slacks, arc, level) and has_parts(paper, 0)


def unsure_is_so(paper, row, slacks, arc, level):
    """With the errors of the paper it is above the level at its turn."""
    check_row(row)
    check_slacks(slacks, row)
    check_arc(arc)
    check_content(level)
    if not has_parts(paper, 2) or not is_on(arc, paper[0]) or not has_parts(paper[1], len(row)):
        return False
    for error, slack in zip(paper[1], slacks):
        if not is_complex(error) or is_above(square_of_size(error), fraction_product(slack, slack)):
            return False
    feeds = tuple([added(feed, error) for feed, error in zip(row, paper[1])])
    return is_above(power_toward(feeds, paper[0]), fraction_product(level, level))


def tells_is_so(paper, row, other, arc):
    """The rows tell turns on the arc."""
    return word_of_reading(row, other, arc) == TELLS and has_parts(paper, 0)


def same_reading_is_so(paper, row, other, arc):
    """The reading is the same all over the arc."""
    return word_of_reading(row, other, arc) == SAME and has_parts(paper, 0)


def folds_is_so(paper, row, other, arc):
    """The turns of the paper fold the reading."""
    check_row(row)
    check_row(other)
    check_arc(arc)
    check_heard(row, arc)
    if not has_parts(paper, 3) or not all([is_on(arc, turn) for turn in paper]):
        return False
    first, middle, last = paper
    if not is_ahead(arc, first, middle) or not is_ahead(arc, middle, last):
        return False
    ends = [reading_toward(row, other, first), reading_toward(row, other, last)]
    return is_beyond(reading_toward(row, other, middle), ends)


def stays_below_is_so(paper, row, count, arc, level):
    """Whichever so many masts are silent, the power is at most the level on the arc."""
    return stays_below(row, count, arc, level) and has_parts(paper, 0)


def may_pass_is_so(paper, row, count, arc, level):
    """Without the masts of the paper it is above the level at its turn."""
    check_row(row)
    check_whole(count, 0, MOST_SILENT)
    check_arc(arc)
    check_content(level)
    if not has_parts(paper, 2) or not has_parts(paper[0], min(count, len(row))) or not is_on(arc, paper[1]):
        return False
    check_indexes(paper[0], row)
    return is_above(power_toward(feeds_without(row, paper[0]), paper[1]), level)


def of_waves_is_so(paper, lags):
    """The lags come of waves."""
    return comes_of_waves(lags) and has_parts(paper, 0)


def barred_is_so(paper, lags):
    """The row of the paper hears less than 0."""
    return heard(lags, paper)[0] < 0


def rank_is_so(paper, lags, count):
    """The lags come of waves and have the rank."""
    return is_whole(count) and wave_rank(lags) == count and has_parts(paper, 0)


def best_is_so(paper, many, points, row):
    """The row goes through the points, and is the sum of their back waves, each times its multiplier."""
    check_whole(many, 1, MOST_MASTS)
    check_points(points)
    check_row(row)
    if len(row) != many or len(points) > many or not has_parts(paper, len(points)):
        return False
    total = (NOUGHT,) * many
    for (turn, number), share in zip(points, paper):
        check_complex(share)
        if sent_toward(row, turn) != number:
            return False
        wave = [multiplied(feed, share) for feed in back_wave(many, turn)]
        total = tuple([added(feed, more) for feed, more in zip(total, wave)])
    return total == row


def gain_is_so(paper, row, turn, fraction):
    """This is the gain."""
    return is_fraction(fraction) and gain(row, turn) == fraction and has_parts(paper, 0)


def least_lobe_is_so(paper, many, edge, fraction):
    """This is the least lobe."""
    return is_fraction(fraction) and least_lobe(many, edge) == fraction and has_parts(paper, 0)


def dies_away_is_so(paper, row):
    """What the row makes, fed back, dies away for all beginnings."""
    return dies_away(row) and has_parts(paper, 0)


def stays_is_so(paper, row):
    """It does not for all."""
    return not dies_away(row) and has_parts(paper, 0)


def split_is_so(paper, row, counts):
    """So many zeros are inside the circle, on it and outside."""
    if not has_parts(counts, 3) or not all([is_whole(count) for count in counts]):
        return False
    return zeros_split(row) == counts and has_parts(paper, 0)


CLAIMS = {
    "same power": same_power_is_so, "unlike power": unlike_power_is_so, "like": like_is_so,
    "never more": never_more_is_so, "more": more_is_so, "null": null_is_so, "heard there": heard_there_is_so,
    "nulls": nulls_is_so, "wished": wished_is_so, "dark": dark_is_so, "sure": sure_is_so, "unsure": unsure_is_so,
    "tells": tells_is_so, "folds": folds_is_so, "same reading": same_reading_is_so,
    "stays below": stays_below_is_so, "may pass": may_pass_is_so, "of waves": of_waves_is_so,
    "barred": barred_is_so, "rank": rank_is_so, "best": best_is_so, "gain": gain_is_so,
    "least lobe": least_lobe_is_so, "dies away": dies_away_is_so, "stays": stays_is_so, "split": split_is_so,
}
LENGTHS = {
    "same power": 3, "unlike power": 3, "like": 3, "never more": 4, "more": 4, "null": 3, "heard there": 3,
    "nulls": 4, "wished": 2, "dark": 2, "sure": 5, "unsure": 5, "tells": 4, "folds": 4, "same reading": 4,
    "stays below": 5, "may pass": 5, "of waves": 2, "barred": 2, "rank": 3, "best": 4, "gain": 4,
    "least lobe": 4, "dies away": 2, "stays": 2, "split": 3,
}


def accepts(claim, paper):
    """Whether the claim is one that is so, and the paper is one of its papers."""
    if not isinstance(claim, tuple) or len(claim) == 0 or not isinstance(claim[0], str):
        return False
    word, parts = claim[0], claim[1:]
    if word not in CLAIMS or len(claim) != LENGTHS[word]:
        return False
    action = CLAIMS[word]
    try:
        return action(paper, *parts)
    except MastError:
        return False
