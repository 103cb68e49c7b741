"""Square tables of pairs that are their own mirrors across the diagonal, and equations with them.

A table is a list of lines, each a list of pairs; the pair in line j at place k
is the conjugate of that in line k at place j. It is above 0 if each sum of
x_k * conj(x_j) * (the pair in line j at place k) is, x being not all noughts.
"""

from mastrows.cpolys import pair_product, pair_sum, pair_times


def solved_above(table, sides):
    """The pairs X and a whole number above 0: X divided by it solves the equations that the lines
    make with the sides; None if the table is not above 0.
    """
    # All numbers stay whole: each step's pivot divides what the next step makes (Bareiss 1968).
    # The pivots are the determinants of the corners; these are above 0 just if the table is.
    lines = [line + [sides[k]] for k, line in enumerate(table)]
    last = 1
    for at in range(len(lines)):
        pivot = lines[at][at][0]
        if pivot <= 0:
            return None
        lines = [line if k == at else line_less(line, lines[at], at, last) for k, line in enumerate(lines)]
        last = pivot
    return [line[-1] for line in lines], last


def line_less(line, used, at, last):
    """The line times the pivot of the used one less what makes its pair at the place 0, divided by last."""
    pivot, factor = used[at][0], pair_times(line[at], -1)
    out = []
    for pair, other in zip(line, used):
        real, side = pair_sum(pair_times(pair, pivot), pair_product(factor, other))
        out.append((real // last, side // last))
    return out


def table_of_lags(pairs):
    """The table of the lags of pairs: c_(k - j) in line j at place k."""
    size = len(pairs)
    return [[lag_at(pairs, k - j) for k in range(size)] for j in range(size)]


def lag_at(pairs, j):
    """The lag c_j, for j below 0 the conjugate of c_(-j)."""
    return pairs[j] if j >= 0 else (pairs[-j][0], -pairs[-j][1])
