"""Point 9: the greatest and the least number of a pattern on an arc, by whole numbers of parts."""

import random
import unittest
from fractions import Fraction
from itertools import product
from math import isqrt

import oracle
from helpers import HUGE, I, NIL, ONE, TWO, WAVE, real
from mastrows.patterns import greatest_floor, lags_sum, lags_times, least_floor, turned_lags
from mastrows.turns import joined_turns, turn_times, turned_arc
from samples import ARCS, BINOMIAL, EVEN, FOURTH, ROOT_TWO, SPOTS, THIRD, some_lags, times

PARTS = [1, 2, 3, 10, 999999, 1000000]
BEND = ((0, 1), (1, 1))


def both(lags, arc, parts):
    return greatest_floor(lags, arc, parts), least_floor(lags, arc, parts)


class ByHand(unittest.TestCase):
    def test_of_the_document(self):
        self.assertEqual([greatest_floor(WAVE, "all", 10), least_floor(WAVE, BEND, 10)], [40, 20])

    def test_the_same_everywhere(self):
        for arc in ("all", BEND, ("half", (0, 1)), ((0, 1), "half"), ((1, 1), (-1, 1))):
            self.assertEqual(both((real(7, 3),), arc, 1), (2, 2))
            self.assertEqual(both((real(-7, 3), NIL), arc, 1), (-3, -3))
            self.assertEqual(both((real(-7, 3),), arc, 3), (-7, -7))
            self.assertEqual(both((NIL,) * 8, arc, 1000000), (0, 0))
            self.assertEqual(both((real(1, HUGE),), arc, 1000000), (0, 0))
            self.assertEqual(both((real(-1, HUGE),), arc, 1000000), (-1, -1))

    def test_ends_and_what_is_within(self):
        # 2 + 2 cos on arcs: at the ends, at 1, at half
        for arc, most, least in [("all", 40, 0), (((0, 1), "half"), 40, 0), (((1, 1), (-1, 1)), 20, 0),
                                 (((-1, 1), (1, 1)), 40, 20), (((1, 2), (1, 1)), 32, 20), (((1, 1), (1, 2)), 40, 0),
                                 (((-1, 1), (1, 2)), 40, 20), (((-1, 2), (1, 1)), 40, 20), (("half", (-1, 1)), 20, 0),
                                 (((-3, 1), (-1, 3)), 36, 4)]:
            self.assertEqual(both(WAVE, arc, 10), (most, least), arc)

    def test_a_dip_within_is_not_the_greatest(self):
        # - 2 cos: - 1.2 at both ends, - 2 between them
        self.assertEqual(both((NIL, real(-1)), ((-1, 2), (1, 2)), 10), (-12, -20))
        self.assertEqual(both((NIL, ONE), ((-1, 2), (1, 2)), 10), (20, 12))
        self.assertEqual(both((NIL, real(-1)), ((-1, 3), (1, 2)), 10), (-12, -20))
        self.assertEqual(both((real(-1), ((1, 1), (-1, 2))), ("half", (-2, 1)), 10), (-30, -33))

    def test_just_met_at_a_direction_that_no_fraction_tells(self):
        # (2 cos - 1)^2 is 0 where cos is 1/2, and 9 at half
        square = times((real(-1), ONE), (real(-1), ONE))
        tiny = 10 ** 300
        for parts in PARTS:
            self.assertEqual(both(square, "all", parts), (9 * parts, 0))
            self.assertEqual(both(square, BEND, parts), (parts, 0))
            self.assertEqual(both(lags_times(square, (-1, 1)), "all", parts), (0, -9 * parts))
            self.assertEqual(both(lags_sum(square, (real(-1, tiny),)), BEND, parts), (parts - 1, -1))
            self.assertEqual(both(lags_sum(square, (real(1, tiny),)), BEND, parts), (parts, 0))
            self.assertEqual(both(lags_sum(lags_times(square, (-1, 1)), (real(1, tiny),)), "all", parts)[0], 0)
            self.assertEqual(both(lags_sum(lags_times(square, (-1, 1)), (real(-1, tiny),)), "all", parts)[0], -1)

    def test_roots_told_by_parts(self):
        # 2 cos - 2 sin is at most the root of 8
        lags = (NIL, ((1, 1), (1, 1)))
        for parts in PARTS:
            root = isqrt(8 * parts * parts)
            self.assertEqual(both(lags, "all", parts), (root, -root - 1))
            self.assertEqual(both(lags, ((-1, 1), (0, 1)), parts), (root, 2 * parts))
            self.assertEqual(both(lags, ((0, 1), (-1, 1)), parts), (2 * parts, -root - 1))
            self.assertEqual(both(lags, ((1, 1), "half"), parts), (-2 * parts, -root - 1))

    def test_many_lags(self):
        self.assertEqual(both(EVEN, "all", 1000000), (64000000, 0))
        self.assertEqual(both(BINOMIAL, "all", 1), (2 ** 14, 0))
        self.assertEqual(both((NIL,) * 7 + (ONE,), "all", 3), (6, -6))
        # - 2 sin (7 angle): at the turn 1 / 100 of the angle 0.0199993
        self.assertEqual(both((NIL,) * 7 + (I,), ((0, 1), (1, 100)), 1000), (0, -280))


class AnySize(unittest.TestCase):
    def test_great_numbers(self):
        lags = (real(HUGE), ((3 * HUGE, 1), (4 * HUGE, 1)))
        self.assertEqual(both(lags, "all", 1), (11 * HUGE, -9 * HUGE))
        self.assertEqual(both(lags_times((NIL, ((1, 1), (1, 1))), (HUGE, 1)), "all", 10),
                         (isqrt(800 * HUGE * HUGE), -isqrt(800 * HUGE * HUGE) - 1))

    def test_long_numbers(self):
        dice = random.Random(30)
        parts = [oracle.pair(Fraction(dice.randrange(-10 ** 60, 10 ** 60), dice.randrange(1, 10 ** 60))) for _ in range(8)]
        lags = (real(*parts[0]), (parts[1], parts[2]), (parts[3], parts[4]))
        self.assertEqual(both(lags, (parts[5], parts[6]), 10),
                         (oracle.greatest_floor(lags, (parts[5], parts[6]), 10),
                          oracle.least_floor(lags, (parts[5], parts[6]), 10)))

    def test_turned_far(self):
        far = turn_times(turn_times((3, 8), 60), 7)
        for lags in (WAVE, EVEN, ROOT_TWO):
            turned = turned_lags(lags, far)
            self.assertEqual(both(turned, "all", 1000), both(lags, "all", 1000))
            self.assertEqual(both(turned, turned_arc(BEND, far), 1000), both(lags, BEND, 1000))
            self.assertEqual(both(turned, (far, joined_turns(far, (1, 1))), 1), both(lags, BEND, 1))

    def test_narrow_arcs(self):
        self.assertEqual(both(WAVE, ((0, 1), (1, HUGE)), 10), (40, 39))
        self.assertEqual(both(WAVE, ((-1, HUGE), (1, HUGE)), 10), (40, 39))
        self.assertEqual(both(WAVE, ((HUGE, 1), (-HUGE, 1)), 1000000), (0, 0))
        self.assertEqual(both(EVEN, ((1, HUGE), (0, 1)), 10), (640, 0))


class AgainstSturm(unittest.TestCase):
    def test_any_lags_and_arcs(self):
        dice = random.Random(31)
        for _ in range(30):
            lags, arc, parts = some_lags(dice), dice.choice(ARCS), dice.choice(PARTS)
            with self.subTest(lags=lags, arc=arc, parts=parts):
                self.assertEqual(greatest_floor(lags, arc, parts), oracle.greatest_floor(lags, arc, parts))
                self.assertEqual(least_floor(lags, arc, parts), oracle.least_floor(lags, arc, parts))

    def test_some_lags_on_all_arcs(self):
        for lags, arc in product([(ONE, ((1, 1), (-1, 2)), ((-1, 2), (0, 1))), FOURTH, THIRD], ARCS[::9]):
            self.assertEqual(greatest_floor(lags, arc, 100), oracle.greatest_floor(lags, arc, 100), (lags, arc))
            self.assertEqual(least_floor(lags, arc, 100), oracle.least_floor(lags, arc, 100), (lags, arc))

    def test_no_direction_is_above_or_below(self):
        dice = random.Random(32)
        for _ in range(40):
            lags = some_lags(dice)
            most, least = both(lags, "all", 100)
            for spot in SPOTS:
                self.assertTrue(Fraction(least, 100) <= oracle.value(lags, spot) < Fraction(most + 1, 100))
