"""Point 20: masts that fall silent."""

import random
import unittest
from itertools import combinations

import oracle
from helpers import HUGE, I, LESS, NIL, ONE, ROWS, TWO, real
from mastrows.makers import even_row, steered
from mastrows.silences import stays_below, without, worst_silence
from mastrows.turns import turn_times, turned_arc
from samples import ARCS, some_row, whole

PAIR, TRIPLE = (ONE, ONE), (ONE,) * 3
NEAR = ((-1, 3), (1, 3))


def silenced(row, indexes):
    return tuple(NIL if k in indexes else feed for k, feed in enumerate(row))


def worst(row, count, arc, level):
    """All tuples, one behind the other, by the slow way."""
    for indexes in combinations(range(len(row)), min(count, len(row))):
        lags = oracle.summed(oracle.lags(silenced(row, indexes)), ((level, (0, 1)),), -1)
        if 1 in oracle.sign_row(lags, arc):
            return indexes
    return None


class Without(unittest.TestCase):
    def test_noughts(self):
        self.assertEqual([without(TRIPLE, (1,)), without(PAIR, (0, 1)), without(PAIR, ()), without((I,), (0,))],
                         [(ONE, NIL, ONE), (NIL, NIL), PAIR, (NIL,)])
        for row in ROWS:
            for count in range(len(row) + 1):
                for indexes in combinations(range(len(row)), count):
                    self.assertEqual(without(row, indexes), silenced(row, indexes))


class Silences(unittest.TestCase):
    def both(self, row, count, arc, level, wanted):
        self.assertEqual(worst_silence(row, count, arc, level), wanted, (row, count, arc, level))
        self.assertIs(stays_below(row, count, arc, level), wanted is None)

    def test_of_the_document(self):
        self.both(TRIPLE, 1, "all", (4, 1), None)
        self.both(TRIPLE, 0, "all", (8, 1), ())
        self.both(TRIPLE, 1, "all", (3, 1), (0,))
        self.both((ONE, LESS), 0, NEAR, (1, 2), None)
        self.both((ONE, LESS), 1, NEAR, (1, 2), (0,))
        self.both((ONE, LESS), 2, NEAR, (1, 2), None)
        self.both((TWO, LESS), 1, NEAR, (1, 1), (1,))

    def test_just_met(self):
        for count, most in [(0, 64), (1, 49), (2, 36)]:
            first = tuple(range(count))
            for arc in ("all", ((0, 1), (1, 7)), ((-1, 7), (0, 1)), ((-1, 1), (1, 1))):
                self.both(even_row(8), count, arc, (most, 1), None)
                self.both(even_row(8), count, arc, (most * HUGE - 1, HUGE), first)
                self.both(even_row(8), count, arc, (most * HUGE + 1, HUGE), None)

    def test_fewer_masts_than_are_silent(self):
        for count in (1, 2):
            for level in ((0, 1), (1, 1), (1, HUGE)):
                self.both((I,), count, "all", level, None)
        self.both((I,), 0, "all", (1, 1), None)
        self.both((I,), 0, "all", (HUGE - 1, HUGE), ())
        self.both(PAIR, 2, "all", (0, 1), None)

    def test_noughts_among_the_feeds(self):
        self.both((NIL, ONE), 1, "all", (1, 2), (0,))
        self.both((ONE, NIL), 1, "all", (1, 2), (1,))
        self.both((ONE, NIL, NIL), 2, "all", (1, 2), (1, 2))
        self.both((NIL, NIL, ONE, NIL), 2, "all", (1, 1), None)

    def test_the_least_of_the_tuples(self):
        self.both(whole(3, 1, 1), 1, "all", (15, 1), (1,))
        self.both(whole(1, 3, 1), 1, "all", (15, 1), (0,))
        self.both(whole(1, 1, 1, 5), 2, "all", (35, 1), (0, 1))
        self.both(whole(1, 1, 1, 5), 2, "all", (36, 1), None)
        self.both(whole(5, 1, 1, 1), 2, "all", (35, 1), (1, 2))
        self.both(whole(5, 1, 2, 1), 2, "all", (48, 1), (1, 3))
        self.both(whole(1, 2, 1, 5, 1, 1, 5), 2, "all", (14 * 14, 1), None)
        self.both(whole(1, 2, 1, 5, 1, 1, 5), 2, "all", (14 * 14 - 1, 1), (0, 2))

    def test_feeds_that_hold_one_another_down(self):
        # toward 0 the row is silent; without one mast it is not
        row = whole(1, 1, -2)
        self.both(row, 0, ((0, 1), (1, 100)), (1, 100), None)
        self.both(row, 1, ((0, 1), (1, 100)), (1, 100), (0,))
        self.both(row, 1, ((0, 1), (1, 100)), (2, 1), (2,))
        self.both(row, 2, ((0, 1), (1, 100)), (1, 1), (0, 1))
        self.both(row, 2, ((0, 1), (1, 100)), (4, 1), None)

    def test_any(self):
        dice = random.Random(90)
        for _ in range(30):
            row, arc, count = some_row(dice, 5), dice.choice(ARCS), dice.randint(0, 2)
            level = oracle.pair(oracle.Fraction(dice.randint(0, 20), dice.choice([1, 3])))
            self.both(row, count, arc, level, worst(row, count, arc, level))

    def test_any_size(self):
        far = turn_times((6, 7), 60)
        for level in ((4, 1), (3, 1)):
            self.both(steered(TRIPLE, far), 1, "all", level, None if level == (4, 1) else (0,))
            self.both(steered(TRIPLE, far), 1, turned_arc(NEAR, far), level, None if level == (4, 1) else (0,))
        self.both((real(HUGE), ONE), 1, "all", (HUGE * HUGE, 1), None)
        self.both((real(HUGE), ONE), 1, "all", (HUGE * HUGE - 1, 1), (1,))
