"""The next reading: where one lag more can be, mirror numbers, and the row that guesses."""

from mastrows.complexes import NOUGHT, added, is_complex, mirrored_number, multiplied, square_of_size, stretched
from mastrows.cpolys import numbers_over, pair_times
from mastrows.errors import InvalidMirrors, NotAbove
from mastrows.fracs import check_amount, fraction_less, fraction_product, reduced
from mastrows.ladders import climb, missed, rank_of
from mastrows.patterns import MOST_LAGS, check_lags


def next_disc(lags):
    """The pair (CENTER, RADIUS) of the disc of all lags that can come next."""
    check_lags(lags)
    if rank_of(lags) is None:
        raise NotAbove()
    rungs, pairs, bottom = climb(lags)
    row, above = rungs[-1]
    below = row[-1][0] * bottom
    gap = missed(row, pairs, len(pairs) + 1 - len(row))
    center = numbers_over([pair_times(gap, -1)], below)[0]
    return center, reduced(above, below)


def mirrors_of(lags):
    """The mirror numbers of lags above 0."""
    check_lags(lags)
    rungs, pairs, _ = rungs_above(lags)
    out = []
    for row, above in rungs[:-1]:
        out.extend(numbers_over([missed(row, pairs, 1)], above))
    return tuple(out)


def guess_row(lags):
    """The row that hears least of all with the last feed 1."""
    check_lags(lags)
    row, _ = rungs_above(lags)[0][-1]
    return numbers_over(row, row[-1][0])


def guess_error(lags):
    """What the guess row hears, an amount."""
    check_lags(lags)
    rungs, _, bottom = rungs_above(lags)
    row, above = rungs[-1]
    return reduced(above, row[-1][0] * bottom)


def lags_from(amount, mirrors):
    """The lags above 0 with the amount as the first one, and with these mirror numbers."""
    check_amount(amount)
    check_mirrors(mirrors)
    lags, row, error = [(amount, (0, 1))], (((1, 1), (0, 1)),), amount
    for number in mirrors:
        lags.append(added(center_by(row, lags), stretched(number, error)))
        row = longer_row(row, number)
        error = fraction_product(error, fraction_less((1, 1), square_of_size(number)))
    return tuple(lags)


def check_mirrors(given):
    """Refuse what is no tuple of at most seven complex numbers of sizes below 1."""
    if not isinstance(given, tuple):
        raise InvalidMirrors(None)
    for k, number in enumerate(given):
        if k == MOST_LAGS - 1 or not is_mirror(number):
            raise InvalidMirrors(k)


def is_mirror(value):
    """Whether a value is a complex number of a size below 1."""
    if not is_complex(value):
        return False
    top, bottom = square_of_size(value)
    return top < bottom


def rungs_above(lags):
    """What `climb` tells of lags above 0; others are refused."""
    climbed = climb(lags)
    if climbed[0][-1][1] <= 0:
        raise NotAbove()
    return climbed


def center_by(row, lags):
    """The center of the next lag, by the guess row of all lags."""
    total = NOUGHT
    for feed, lag in zip(row, lags[1:]):
        total = added(total, multiplied(feed, lag))
    return stretched(total, (-1, 1))


def longer_row(row, number):
    """The guess row of one lag more, by that of the others and the mirror number of the last one."""
    back = stretched(number, (-1, 1))
    taken = [multiplied(back, mirrored_number(feed)) for feed in row[::-1]]
    return tuple([added(feed, other) for feed, other in zip((NOUGHT,) + row, taken + [NOUGHT])])
