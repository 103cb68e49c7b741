"""Lags and arcs that several tests look at."""

from fractions import Fraction
from itertools import product
from math import comb

import oracle
from helpers import NIL, ONE, TWO, real
from mastrows.patterns import lags_sum, lags_times

SPOTS = ["half", (0, 1), (1, 1), (-1, 1), (1, 2), (-3, 4), (5, 2), (-7, 1)]
ARCS = ["all"] + [(a, b) for a, b in product(SPOTS, SPOTS) if a != b]
EVEN = tuple(real(8 - k) for k in range(8))
BINOMIAL = tuple(real(comb(14, 7 - k)) for k in range(8))
OPPOSITE = (TWO, real(-1))


def times(*all_lags):
    out = (ONE,)
    for lags in all_lags:
        out = oracle.convolved(out, lags)
    return out


# 0 at the turns t with t t = 2, t t = 1/3, t t t t = 2: told by no fractions
ROOT_TWO = oracle.quadratic(-2, 0, 1)
THIRD = oracle.quadratic(1, 0, -3)
FOURTH = lags_sum(times(*[oracle.quadratic(0, 0, 1)] * 2), lags_times(times(*[oracle.quadratic(1, 0, 0)] * 2), (-2, 1)))


def some_lags(dice):
    """Lags of any kind, mostly with zeros, some of them several times, some noughts at the end."""
    if dice.random() < 0.3:
        parts = [oracle.pair(Fraction(dice.randint(-3, 3), dice.randint(1, 3))) for _ in range(16)]
        size = dice.randint(1, 5)
        return tuple((parts[2 * k], parts[2 * k + 1] if k else (0, 1)) for k in range(size))
    out = (real(dice.choice([-1, 1])),)
    for _ in range(dice.randint(1, 3)):
        numbers = [dice.randint(-3, 3) for _ in range(3)]
        known = [(0, 0, 1), (1, 0, 0), (0, 1, 0), (1, 1, 0), (1, 2, 1), (-2, 0, 1), (1, 0, 1)]
        part = oracle.quadratic(*(numbers if dice.random() < 0.5 else dice.choice(known)))
        out = times(out, part)
        if dice.random() < 0.4 and len(out) < 4:
            out = times(out, part)
    if dice.random() < 0.3:
        out = lags_sum(out, (real(dice.choice([-1, 1]), 10 ** dice.randint(1, 30)),))
    return out + (NIL,) * dice.choice([0, 0, 0, 1, 2])


def whole(*numbers):
    """A row of whole numbers, each alone or a pair."""
    return tuple(((n[0], 1), (n[1], 1)) if isinstance(n, tuple) else real(n) for n in numbers)


def some_number(dice):
    return tuple(oracle.pair(Fraction(dice.randint(-4, 4), dice.choice([1, 1, 2, 3]))) for _ in range(2))


# rows of two or three masts: with nulls that fractions tell or do not, at half, and without
FACTORS = [whole(1, 1), whole(1, -1), whole(1, (0, 1)), whole(1, 1, 1), whole(1, -1, 1), whole(1, 0, 1), whole(2, 1),
           whole(1, 2), whole((1, 1), 3), whole(1, -1, -1), whole(1, 0, 2), whole(3, (1, 2)), whole(5, -8, 5),
           whole(3, -2, 3), whole(1, (1, 1), 5)]


def some_row(dice, most=8):
    """A row of any kind: mostly a product, some factors several times, some noughts at its ends."""
    if dice.random() < 0.3:
        row = tuple(some_number(dice) for _ in range(dice.randint(1, most)))
        return row if any(feed != NIL for feed in row) else (ONE,)
    row = (real(dice.choice([1, -1, 2]), dice.choice([1, 3])),)
    for _ in range(dice.randint(1, 4)):
        factor = dice.choice(FACTORS)
        if len(row) + len(factor) - 1 <= most:
            row = oracle.product(row, factor)
    room = most - len(row)
    ahead = dice.choice([0, 0, 0, 1, 2])
    behind = dice.choice([0, 0, 0, 1, 2])
    if ahead + behind <= room:
        row = (NIL,) * ahead + row + (NIL,) * behind
    return row
