"""Patterns above 0 as sums of weighted powers of rows, by whole numbers.

Newton's way (Wilson 1969): R being near the row wanted, and free of zeros
inside the circle, D with 2 RE (conj(R) * D) = PATTERN - |R|^2 leads to R + D,
which is nearer, and free of such zeros, too. All numbers stand over 2^bits.
What is rounded off does no harm: only what is left of the pattern decides.
"""

from mastrows.cpolys import NIL, lag_pairs, numbers_over, pair_sum
from mastrows.patterns import quarters_met
from mastrows.turns import ALL

UNITS = ((1, 0), (0, 1), (-1, 0), (0, -1))


def weighted_pairs(pairs):
    """The pattern of lags of pairs, above 0, as triples (TOP, BOTTOM, POLY), POLY being pairs
    of as many masts: the powers, each times TOP / BOTTOM, add up to the pattern.
    """
    whole = pairs[0][0]
    if len(pairs) == 1:
        return [(whole, 1, [(1, 0)])]
    gap = gap_of(pairs)
    bits = gap + gap // 4 + 32
    row = near_row(pairs, gap, bits)
    while row is None:
        bits = 2 * bits
        row = near_row(pairs, gap, bits)
    bottom = 1 << 2 * bits
    kept = [(top, bottom, poly) for top, poly in left_over(rests_of(pairs, row, bits)) if top > 0]
    return [(whole, bottom, row)] + kept


def gap_of(pairs):
    """A whole number so that the pattern, divided by its mean, is everywhere from 2 / 2^gap on."""
    gap, least = 2, 0
    while least < 2:
        gap = 2 * gap
        # What is met is at most 2 above the least number of the pattern, times 4 for each part.
        met = quarters_met(numbers_over(pairs, pairs[0][0]), ALL, 1 << gap)
        least = (min(met) - 2) // 4
    return gap + 2 - least.bit_length()


def near_row(pairs, gap, bits):
    """A row, over 2^bits, whose power is so near below the pattern, divided by its mean, that what
    is left is a sum of powers; None if it is not met with so many bits.
    """
    whole = pairs[0][0]
    wanted = [((real << bits) // whole, (side << bits) // whole) for real, side in pairs]
    wanted[0] = ((1 << bits) - (1 << bits - gap), 0)
    row = [(1 << bits, 0)] + [NIL] * (len(pairs) - 1)
    leaps, most = leaps_for(gap), gap // 8 + 60
    for step in range(most + gap + 60):
        if is_sum_of_powers(rests_of(pairs, row, bits)):
            return row
        gained = [(real >> bits, side >> bits) for real, side in lag_pairs(row)]
        missing = [(one[0] - two[0], one[1] - two[1]) for one, two in zip(wanted, gained)]
        change = change_of(row, missing, bits)
        if change is None:
            return None
        if step < most and step % 2 == 1:
            leap = leaps[step // 2 % len(leaps)]
            change = [(2 * real - (real >> leap), 2 * side - (side >> leap)) for real, side in change]
        row = [pair_sum(feed, more) for feed, more in zip(row, change)]
    return None


def leaps_for(gap):
    """How far from 2 the factors of the leaps are, in bits, one leap after the other.

    Where the row's power is 4^k times that wanted, a step only halves the row.
    With the factor 2 - 1 / 2^leap it brings the row leap + 1 bits nearer, or, if
    k is less, as far below as it was above, and there are no zeros inside the
    circle then, either. Two thirds of the greatest k that there may be leave a
    third of it, wherever the row was.
    """
    rest, leaps = gap // 2 + 3, []
    while rest > 2:
        leaps.append(2 * rest // 3)
        rest = rest // 3
    return leaps


def rests_of(pairs, row, bits):
    """What the power of the row leaves of the pattern, exactly, over 4^bits: lags as pairs."""
    whole = pairs[0][0]
    rests = []
    for (real, side), (top, over) in zip(pairs, lag_pairs(row)):
        rests.append(((real << 2 * bits) - whole * top, (side << 2 * bits) - whole * over))
    return rests


def is_sum_of_powers(rests):
    """Whether the first lag is great enough to make up for all others."""
    return rests[0][0] >= 2 * sum([abs(real) + abs(side) for real, side in rests[1:]])


def left_over(rests):
    """Pairs (TOP, POLY): the powers, each times TOP, add up to the pattern of the rests.

    The power of 1 + u z^j is 2 + 2 RE (u z^j), u being 1, i, -1 or - i.
    """
    size, alone, out = len(rests), rests[0][0], []
    for j in range(1, size):
        real, side = rests[j]
        alone = alone - 2 * (abs(real) + abs(side))
        for k, top in enumerate([real, side, -real, -side]):
            if top > 0:
                out.append((top, [(1, 0)] + [NIL] * (j - 1) + [UNITS[k]]))
    return [(alone, [(1, 0)])] + out


def change_of(row, missing, bits):
    """D, nearly, with missing as the lags of 2 RE (conj(R) * D), all over 2^bits; None if it is not found."""
    table = table_of(row, missing)
    found = solved(table, bits)
    if found is None:
        return None
    return [(found[0], 0)] + [(found[2 * k - 1], found[2 * k]) for k in range(1, len(row))]


def table_of(row, missing):
    """The linear equations for the parts of D, whose first number is real, with their other sides last.

    The lag c_j is the sum of conj(r_(l - j)) * d_l + r_(l + j) * conj(d_l) over all l.
    """
    size, table = len(row), []
    for j in range(size):
        reals, sides = [], []
        for k in range(size):
            low = row[k - j] if k >= j else NIL
            high = row[k + j] if k + j < size else NIL
            reals.append(low[0] + high[0])
            sides.append(high[1] - low[1])
            if k > 0:
                reals.append(low[1] + high[1])
                sides.append(low[0] - high[0])
        table.append(reals + [missing[j][0]])
        if j > 0:
            table.append(sides + [missing[j][1]])
    return table


def solved(table, bits):
    """The numbers, over 2^bits, that solve the equations nearly; None if the numbers are too short for it."""
    size, rest, used = len(table), list(table), []
    for at in range(size):
        pivot = max([abs(line[at]) for line in rest])
        if pivot == 0:
            return None
        first = [k for k, line in enumerate(rest) if abs(line[at]) == pivot][0]
        used.append(rest[first])
        rest = [line_less(line, used[-1], at, bits) for k, line in enumerate(rest) if k != first]
    found = [0] * size
    for at in reversed(range(size)):
        line = used[at]
        taken = sum([line[k] * found[k] for k in range(at + 1, size)])
        found[at] = ((line[size] << bits) - taken) // line[at]
    return found


def line_less(line, used, at, bits):
    """The line less a multiple of the used one, so that its number at the place is 0."""
    if line[at] == 0:
        return line
    factor = (line[at] << bits) // used[at]
    return [0] * (at + 1) + [line[k] - (factor * used[k] >> bits) for k in range(at + 1, len(line))]
