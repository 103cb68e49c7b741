"""Lags and arcs that several tests look at."""

from fractions import Fraction
from itertools import product
from math import comb

import oracle
from helpers import NIL, ONE, TWO, real
from mastrows.patterns import lags_sum, lags_times

SPOTS = ["half", (0, 1), (1, 1), (-1, 1), (1, 2), (-3, 4), (5, 2), (-7, 1)]
ARCS = ["all"] + [(a, b) for a, b in product(SPOTS, SPOTS) if a != b]
EVEN = tuple(real(8 - k) for k in range(8))
BINOMIAL = tuple(real(comb(14, 7 - k)) for k in range(8))
OPPOSITE = (TWO, real(-1))


def times(*all_lags):
    out = (ONE,)
    for lags in all_lags:
        out = oracle.convolved(out, lags)
    return out


# 0 at the turns t with t t = 2, t t = 1/3, t t t t = 2: told by no fractions
ROOT_TWO = oracle.quadratic(-2, 0, 1)
THIRD = oracle.quadratic(1, 0, -3)
FOURTH = lags_sum(times(*[oracle.quadratic(0, 0, 1)] * 2), lags_times(times(*[oracle.quadratic(1, 0, 0)] * 2), (-2, 1)))


def some_lags(dice):
    """Lags of any kind, mostly with zeros, some of them several times, some noughts at the end."""
    if dice.random() < 0.3:
        parts = [oracle.pair(Fraction(dice.randint(-3, 3), dice.randint(1, 3))) for _ in range(16)]
        size = dice.randint(1, 5)
        return tuple((parts[2 * k], parts[2 * k + 1] if k else (0, 1)) for k in range(size))
    out = (real(dice.choice([-1, 1])),)
    for _ in range(dice.randint(1, 3)):
        numbers = [dice.randint(-3, 3) for _ in range(3)]
        known = [(0, 0, 1), (1, 0, 0), (0, 1, 0), (1, 1, 0), (1, 2, 1), (-2, 0, 1), (1, 0, 1)]
        part = oracle.quadratic(*(numbers if dice.random() < 0.5 else dice.choice(known)))
        out = times(out, part)
        if dice.random() < 0.4 and len(out) < 4:
            out = times(out, part)
    if dice.random() < 0.3:
        out = lags_sum(out, (real(dice.choice([-1, 1]), 10 ** dice.randint(1, 30)),))
    return out + (NIL,) * dice.choice([0, 0, 0, 1, 2])
