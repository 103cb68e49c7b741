"""Lags climbed: for one mast, two, three and so on the row that hears least with its last feed
fixed, by Levinson's steps (1947), in whole numbers.

A rung is a pair (ROW, ABOVE) of a row as pairs without a common divisor, the
last one real and above 0, and of a whole number: the table times the row is 0
but at the last place, and ABOVE there. So ABOVE times the last pair is what the
row hears.
"""

from mastrows.cpolys import (NIL, common_bottom, cpoly_mirror, cpoly_sum, cpoly_times, greatest_whole, pair_product,
                             pair_sum, pair_times, pairs_over)


def climb(lags):
    """The rungs of the lags, their pairs, and the whole number that these are times the lags.

    The tables of all rungs are above 0, but perhaps that of the last one; if it
    is, there are as many rungs as lags.
    """
    bottom = common_bottom(lags)
    pairs = pairs_over(lags, bottom)
    rungs = [([(1, 0)], pairs[0][0])]
    while rungs[-1][1] > 0 and len(rungs) < len(pairs):
        rungs.append(next_rung(rungs[-1], pairs))
    return rungs, pairs, bottom


def next_rung(rung, pairs):
    """The rung behind one whose table is above 0."""
    row, above = rung
    real, side = missed(row, pairs, 1)
    kept = [NIL] + cpoly_times(row, (above, 0))
    taken = cpoly_times(cpoly_mirror(row), (-real, -side))
    feeds = cpoly_sum(kept, taken)
    # What it hears of the last mast is a sum of whole numbers: that can be divided, too.
    common = greatest_whole(feeds)
    longer = [(top // common, over // common) for top, over in feeds]
    return longer, (above * above - real * real - side * side) // common


def missed(row, pairs, shift):
    """The sum of the feeds, each times the lag so many places behind its own; lags that are not there are 0."""
    total = NIL
    for feed, pair in zip(row, pairs[shift:]):
        total = pair_sum(total, pair_product(feed, pair))
    return total


def parting_shift(row, pairs):
    """The first shift at which a row that hears nothing misses the lags; None if there is none.

    Lags of waves from its nulls are never missed.
    """
    for shift in range(1, len(pairs) - len(row) + 1):
        if missed(row, pairs, shift) != NIL:
            return shift
    return None


def rank_of(lags):
    """The rank of the lags; None if they do not come of waves."""
    rungs, pairs, _ = climb(lags)
    row, above = rungs[-1]
    if above > 0:
        return len(pairs)
    if above < 0 or parting_shift(row, pairs) is not None:
        return None
    return len(row) - 1


def barring_pairs(lags):
    """A row as pairs, of at most as many masts as lags, that hears less than 0; None if there is none."""
    rungs, pairs, _ = climb(lags)
    row, above = rungs[-1]
    if above != 0:
        return row if above < 0 else None
    shift = parting_shift(row, pairs)
    if shift is None:
        return None
    # Moved by the shift the row still hears nothing by itself; but with a little of
    # the first mast it hears of this what is missed, as much below 0 as is wanted.
    whole = pairs[0][0] if pairs[0][0] > 0 else 1
    first = pair_times(missed(row, pairs, shift), -1)
    return [first] + [NIL] * (shift - 1) + cpoly_times(row, (whole, 0))
