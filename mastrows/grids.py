"""Square tables of pairs that are their own mirrors across the diagonal, and equations with them.

A table is a list of lines, each a list of pairs; the pair in line j at place k
is the conjugate of that in line k at place j. It is above 0 if each sum of
x_k * conj(x_j) * (the pair in line j at place k) is, x being not all noughts.
"""

from mastrows.cpolys import pair_product, pair_sum, pair_times


def solved_above(table, sides):
    """The pairs X and a whole number above 0: X divided by it solves the equations that the lines
    make with the sides; None if the table is not above 0.
    """
    # All numbers stay whole: each step's pivot divides what the next step makes (Bareiss 1968).
    # The pivots are the determinants of the corners; these are above 0 just if the table is.
    rest = [line + [sides[k]] for k, line in enumerate(table)]
    used, last = [], 1
    while rest:
        used.append(rest[0])
        pivot = rest[0][0][0]
        if pivot <= 0:
            return None
        rest = [shorter_line(line, used[-1], last) for line in rest[1:]]
        last = pivot
    return solved_backward(used, last), last


def shorter_line(line, used, last):
    """The line times the pivot of the used one less what makes its first pair 0, divided by last, without this pair."""
    pivot, factor = used[0][0], pair_times(line[0], -1)
    out = []
    for pair, other in zip(line[1:], used[1:]):
        real, side = pair_sum(pair_times(pair, pivot), pair_product(factor, other))
        out.append((real // last, side // last))
    return out


def solved_backward(used, last):
    """The pairs that, divided by last, solve the lines, each of which is one pair shorter than the one before it."""
    found = []
    for line in reversed(used):
        total = pair_times(line[-1], last)
        for pair, other in zip(line[1:-1], found):
            total = pair_sum(total, pair_times(pair_product(pair, other), -1))
        # By Cramer's rule these are whole, too.
        pivot = line[0][0]
        found.insert(0, (total[0] // pivot, total[1] // pivot))
    return found


def table_of_lags(pairs):
    """The table of the lags of pairs: c_(k - j) in line j at place k."""
    size = len(pairs)
    return [[lag_at(pairs, k - j) for k in range(size)] for j in range(size)]


def lag_at(pairs, j):
    """The lag c_j, for j below 0 the conjugate of c_(-j)."""
    return pairs[j] if j >= 0 else (pairs[-j][0], -pairs[-j][1])
