"""Points 2, 9 and 10: lags, patterns, sign rows, slopes, peaks, turned lags."""

import random
import unittest
from fractions import Fraction
from itertools import product

import oracle
from helpers import HUGE, I, LAGS, NIL, NO_LAGS, ONE, TWO, WAVE, real
from mastrows.patterns import (is_lags, lags_sum, lags_times, pattern_at, peaks_of, signs_on, slope_lags, turn_with,
                               turned_lags, zeros_on)
from mastrows.turns import back_turn, is_on, is_turn, joined_turns, turn_times, turned_arc
from samples import ARCS, BINOMIAL, EVEN, FOURTH, OPPOSITE, ROOT_TWO, SPOTS, THIRD, some_lags, times


class IsLags(unittest.TestCase):
    def test_lags(self):
        for lags in LAGS + [EVEN, BINOMIAL, (NIL,) * 3, (ONE,) + (I,) * 7]:
            self.assertIs(is_lags(lags), True)

    def test_all_else(self):
        for k, value in enumerate(NO_LAGS):
            with self.subTest(k):
                self.assertIs(is_lags(value), False)

    def test_how_many(self):
        for size in range(12):
            self.assertIs(is_lags((ONE,) * size), 1 <= size <= 8)

    def test_only_the_first_one_is_real(self):
        self.assertEqual([is_lags((I,)), is_lags((I, ONE)), is_lags((ONE, I)), is_lags((NIL, I, I))],
                         [False, False, True, True])


class PatternAt(unittest.TestCase):
    def test_by_hand(self):
        self.assertEqual([pattern_at(WAVE, turn) for turn in ((0, 1), (1, 1), (-1, 1), (1, 2), "half")],
                         [(4, 1), (2, 1), (2, 1), (16, 5), (0, 1)])
        self.assertEqual([pattern_at((NIL, I), turn) for turn in ((0, 1), (1, 1), (-1, 1), (1, 2), "half")],
                         [(0, 1), (-2, 1), (2, 1), (-8, 5), (0, 1)])
        self.assertEqual([pattern_at((NIL, NIL, ONE), turn) for turn in ((0, 1), (1, 1), "half")],
                         [(2, 1), (-2, 1), (2, 1)])
        self.assertEqual([pattern_at((real(-3, 7),) + (NIL,) * 7, turn) for turn in SPOTS], [(-3, 7)] * 8)

    def test_against_the_sum(self):
        for lags in LAGS + [EVEN, BINOMIAL, FOURTH, THIRD]:
            for turn in SPOTS:
                self.assertEqual(pattern_at(lags, turn), oracle.pair(oracle.value(lags, turn)))

    def test_any_size(self):
        far = turn_times((99, 100), 60)
        lags = turned_lags(EVEN, far)
        self.assertEqual(pattern_at(lags, far), (64, 1))
        self.assertEqual(pattern_at(turned_lags(lags, back_turn(far)), (0, 1)), (64, 1))
        self.assertEqual(pattern_at((real(HUGE), ONE), (0, 1)), (HUGE + 2, 1))


class SignsByHand(unittest.TestCase):
    def test_nought(self):
        for size in range(1, 9):
            for arc in ("all", ((0, 1), (1, 1)), ("half", (1, 1)), ((1, 1), (0, 1))):
                self.assertEqual(signs_on((NIL,) * size, arc), (0,))

    def test_the_same_everywhere(self):
        for arc in ("all", ((0, 1), (1, 1)), ((1, 1), "half")):
            self.assertEqual([signs_on((TWO,), arc), signs_on((real(-1, HUGE), NIL, NIL), arc)], [(1,), (-1,)])

    def test_zero_at_half(self):
        rows = {"all": (0, 1), ("half", (0, 1)): (0, 1), ((0, 1), "half"): (1, 0), ((1, 1), (-1, 1)): (1, 0, 1),
                ((-1, 1), (1, 1)): (1,)}
        for arc, row in rows.items():
            for lags in (WAVE, BINOMIAL, WAVE + (NIL,), (real(2, HUGE), real(1, HUGE))):
                self.assertEqual(signs_on(lags, arc), row)
            self.assertEqual(signs_on(lags_times(WAVE, (-1, 3)), arc), tuple(-sign for sign in row))

    def test_half_counts_as_the_first_alone(self):
        # - sin: 0 at half and at 1
        lags = (NIL, I)
        self.assertEqual(signs_on(lags, "all"), (0, 1, 0, -1))
        self.assertEqual(signs_on(lags, ((1, 1), (-1, 1))), (-1, 0, 1))
        self.assertEqual(signs_on(lags, ("half", (0, 1))), (0, 1, 0))
        self.assertEqual(signs_on(lags, ((0, 1), "half")), (0, -1, 0))

    def test_once_round_ends_as_it_begins(self):
        self.assertEqual(signs_on((ONE, ONE), "all"), (-1, 0, 1, 0, -1))
        self.assertEqual(signs_on((ONE, real(-1)), "all"), (1, 0, -1, 0, 1))
        self.assertEqual(signs_on((NIL, ONE), "all"), (-1, 0, 1, 0, -1))

    def test_ends_that_are_zeros(self):
        lags = oracle.quadratic(0, -1, 1)
        self.assertEqual(signs_on(lags, ((0, 1), (1, 1))), (0, -1, 0))
        self.assertEqual(signs_on(lags, ((1, 1), (0, 1))), (0, 1, 0))
        self.assertEqual(signs_on(lags, ((0, 1), (1, 2))), (0, -1))
        self.assertEqual(signs_on(lags, ((1, 2), (1, 1))), (-1, 0))
        self.assertEqual(signs_on(lags, ((1, 1), "half")), (0, 1))
        self.assertEqual(signs_on(lags, ((-1, 1), (2, 1))), (1, 0, -1, 0, 1))
        self.assertEqual(signs_on(lags, ((1, 2), (1, 3))), (-1, 0, 1, 0, -1))

    def test_zeros_that_come_several_times(self):
        once, twice = oracle.quadratic(0, 1, 0), oracle.quadratic(0, 0, 1)
        self.assertEqual(signs_on(twice, ((-1, 1), (1, 1))), (1, 0, 1))
        self.assertEqual(signs_on(times(once, twice), ((-1, 1), (1, 1))), (-1, 0, 1))
        self.assertEqual(signs_on(times(twice, twice), ((-1, 1), (1, 1))), (1, 0, 1))
        self.assertEqual(signs_on(times(twice, twice, twice), ((0, 1), (1, 1))), (0, 1))
        self.assertEqual(signs_on(times(twice, OPPOSITE), ((-1, 1), (0, 1))), (1, 0))
        thrice = times(*[oracle.quadratic(2, -3, 1)] * 3)
        self.assertEqual(signs_on(thrice, ((1, 1), (2, 1))), (0, -1, 0))
        self.assertEqual(signs_on(thrice, ((2, 1), (1, 1))), (0, 1, 0))
        self.assertEqual(signs_on(thrice, ((0, 1), (3, 1))), (1, 0, -1, 0, 1))
        both = times(oracle.quadratic(1, -2, 1), oracle.quadratic(2, -1, 0))
        self.assertEqual(signs_on(both, ((0, 1), (3, 1))), (1, 0, 1, 0, -1))

    def test_zeros_that_no_fraction_tells(self):
        self.assertEqual(signs_on(ROOT_TWO, "all"), (1, 0, -1, 0, 1))
        self.assertEqual(signs_on(ROOT_TWO, ((1, 1), (2, 1))), (-1, 0, 1))
        self.assertEqual(signs_on(ROOT_TWO, ((7, 5), (17, 12))), (-1, 0, 1))
        self.assertEqual(signs_on(ROOT_TWO, ((17, 12), (7, 5))), (1, 0, -1))
        self.assertEqual(signs_on(times(ROOT_TWO, ROOT_TWO), "all"), (1, 0, 1, 0, 1))
        self.assertEqual(signs_on(times(ROOT_TWO, ROOT_TWO, ROOT_TWO), "all"), (1, 0, -1, 0, 1))
        self.assertEqual(signs_on(times(ROOT_TWO, ROOT_TWO, THIRD), "all"), (-1, 0, -1, 0, 1, 0, -1, 0, -1))
        self.assertEqual(signs_on(FOURTH, ((0, 1), (2, 1))), (-1, 0, 1))

    def test_zeros_beside_ends(self):
        # the convergents of the root of 2, one below and one above
        high = (1, 1)
        for _ in range(301):
            low, high = high, (high[0] + 2 * high[1], high[0] + high[1])
        self.assertTrue(low[0] ** 2 == 2 * low[1] ** 2 - 1 and high[0] ** 2 == 2 * high[1] ** 2 + 1)
        self.assertEqual(signs_on(ROOT_TWO, (low, high)), (-1, 0, 1))
        self.assertEqual(signs_on(ROOT_TWO, (high, low)), (1, 0, -1))
        self.assertEqual(signs_on(ROOT_TWO, ((1, 1), low)), (-1,))
        self.assertEqual(signs_on(ROOT_TWO, (high, (2, 1))), (1,))

    def test_eight_lags(self):
        self.assertEqual(signs_on(EVEN, "all"), (0,) + (1, 0) * 6 + (1,))
        self.assertEqual(signs_on(EVEN, ((0, 1), "half")), (1, 0) * 4)
        self.assertEqual(signs_on((NIL,) * 7 + (ONE,), "all"), (-1, 0, 1, 0) * 7 + (-1,))
        self.assertEqual(signs_on((NIL,) * 7 + (I,), "all"), (0, 1, 0, -1) * 7)

    def test_all_but_touching(self):
        tiny = 10 ** 200
        above, below = lags_sum(EVEN, (real(1, tiny),)), lags_sum(EVEN, (real(-1, tiny),))
        self.assertEqual(signs_on(above, "all"), (1,))
        self.assertEqual(signs_on(below, "all"), (-1, 0, 1, 0) * 7 + (-1,))
        self.assertEqual(signs_on(lags_sum(WAVE, (real(1, HUGE),)), "all"), (1,))
        self.assertEqual(signs_on(lags_sum(WAVE, (real(-1, HUGE),)), "all"), (-1, 0, 1, 0, -1))

    def test_first_numbers_that_a_great_prime_divides(self):
        prime = 2 ** 61 - 1
        twice = oracle.quadratic(1, 2 * prime, prime * prime)
        self.assertEqual(signs_on(twice, "all"), (1, 0, 1))
        self.assertEqual(signs_on(twice, ((-1, prime), (0, 1))), (0, 1))
        self.assertEqual(signs_on(times(twice, oracle.quadratic(0, 1, 0)), "all"), (0, -1, 0, -1, 0, 1))

    def test_zeros_close_to_one_another(self):
        for many in (1, 100, 10 ** 30, 10 ** 300):
            close = times(oracle.quadratic(-many, 0, 16 * many), oracle.quadratic(-many, 0, 16 * many + 1))
            self.assertEqual(signs_on(close, ((0, 1), (1, 1))), (1, 0, -1, 0, 1))
            self.assertEqual(signs_on(close, "all"), (1, 0, -1, 0, 1, 0, -1, 0, 1))
            self.assertEqual(signs_on(close, ((1, 4), (-1, 4))), (0, 1, 0))

    def test_zeros_close_to_one_another_beside_zeros_at_the_ends(self):
        for many in (1, 100, 10 ** 30):
            parts = [oracle.quadratic(-many, 0, 16 * many + k) for k in (0, 1, 2)]
            two, three = times(*parts[:2], oracle.quadratic(0, 1, 0)), times(*parts, oracle.quadratic(0, 1, 0))
            self.assertEqual(signs_on(two, ((0, 1), (1, 1))), (0, 1, 0, -1, 0, 1))
            self.assertEqual(signs_on(two, ((-1, 1), (0, 1))), (-1, 0, 1, 0, -1, 0))
            self.assertEqual(signs_on(three, ((0, 1), (1, 1))), (0, -1, 0, 1, 0, -1, 0, 1))
            self.assertEqual(signs_on(three, ((-1, 1), (0, 1))), (-1, 0, 1, 0, -1, 0, 1, 0))
            self.assertEqual(signs_on(times(*parts), ((0, 1), (1, 1))), (-1, 0, 1, 0, -1, 0, 1))
            self.assertEqual(signs_on(times(*parts), ((-1, 1), (0, 1))), (1, 0, -1, 0, 1, 0, -1))
            self.assertEqual(signs_on(times(*parts), ("half", (0, 1))), (1, 0, -1, 0, 1, 0, -1))

    def test_arcs_of_any_size(self):
        self.assertEqual(signs_on((NIL, I), ((-1, HUGE), (1, HUGE))), (1, 0, -1))
        self.assertEqual(signs_on((NIL, I), ((HUGE, 1), (-HUGE, 1))), (-1, 0, 1))
        self.assertEqual(signs_on((NIL, I), ((HUGE, HUGE + 1), (HUGE + 1, HUGE + 2))), (-1,))


class SignsAgainstSturm(unittest.TestCase):
    def test_signs_zeros_and_turns(self):
        dice = random.Random(20)
        for _ in range(250):
            lags, arc = some_lags(dice), dice.choice(ARCS)
            row = oracle.sign_row(lags, arc)
            with self.subTest(lags=lags, arc=arc):
                self.assertEqual(signs_on(lags, arc), row)
                self.assertEqual(zeros_on(lags, arc), row.count(0) if oracle.polynomial(lags) else "endless")
                for sign in (1, -1):
                    self.told_if_there(lags, arc, sign, row)

    def told_if_there(self, lags, arc, sign, row):
        turn = turn_with(lags, arc, sign)
        if sign not in row:
            self.assertIsNone(turn)
        else:
            self.assertTrue(is_turn(turn) and is_on(arc, turn))
            self.assertEqual(oracle.sign(oracle.value(lags, turn)), sign)

    def test_turned_patterns_have_the_same_signs(self):
        dice = random.Random(21)
        for _ in range(60):
            lags, arc, turn = some_lags(dice), dice.choice(ARCS[1:]), turn_times(dice.choice(SPOTS), 3)
            self.assertEqual(signs_on(turned_lags(lags, turn), turned_arc(arc, turn)), signs_on(lags, arc))


class Zeros(unittest.TestCase):
    def test_by_hand(self):
        self.assertEqual([zeros_on(lags, "all") for lags in (WAVE, EVEN, BINOMIAL, (TWO,), (NIL, I), (NIL,) * 7 + (ONE,))],
                         [1, 7, 1, 0, 2, 14])
        self.assertEqual([zeros_on(WAVE, arc) for arc in (("half", (0, 1)), ((0, 1), "half"), ((1, 1), (-1, 1)),
                                                          ((-1, 1), (1, 1)))], [1, 1, 1, 0])
        self.assertEqual([zeros_on(ROOT_TWO, arc) for arc in (((0, 1), (2, 1)), ((2, 1), (0, 1)), ((2, 1), (-2, 1)))],
                         [1, 1, 0])

    def test_nought(self):
        for size in range(1, 9):
            self.assertEqual([zeros_on((NIL,) * size, arc) for arc in ("all", ((0, 1), (1, 1)))], ["endless"] * 2)


class TurnWith(unittest.TestCase):
    def found(self, lags, arc, sign):
        turn = turn_with(lags, arc, sign)
        self.assertTrue(is_turn(turn) and is_on(arc, turn))
        self.assertEqual(oracle.sign(oracle.value(lags, turn)), sign)

    def test_between_zeros_at_the_ends(self):
        lags = oracle.quadratic(0, -1, 1)
        self.found(lags, ((0, 1), (1, 1)), -1)
        self.found(lags, ((1, 1), (0, 1)), 1)
        self.assertIsNone(turn_with(lags, ((0, 1), (1, 1)), 1))
        self.assertIsNone(turn_with(lags, ((1, 1), (0, 1)), -1))

    def test_between_zeros_that_no_fraction_tells(self):
        one, other = oracle.quadratic(-200, 0, 100), oracle.quadratic(-201, 0, 100)
        close = times(one, other)
        self.found(close, "all", -1)
        self.found(close, ((1, 1), (2, 1)), -1)
        self.found(close, ((2, 1), (1, 1)), -1)
        self.assertIsNone(turn_with(close, ((0, 1), (1, 1)), -1))
        self.assertIsNone(turn_with(times(one, one), "all", -1))

    def test_beside_an_end(self):
        self.found((NIL, I), ((0, 1), (1, HUGE)), -1)
        self.found((NIL, I), ((-1, HUGE), (0, 1)), 1)
        self.found((NIL, I), ((-1, HUGE), (1, 1)), 1)
        self.found(WAVE, ("half", (-HUGE, 1)), 1)

    def test_both_signs_between_zeros_at_the_ends(self):
        # zeros at 0, at 1 and at the root of 1/3, none twice
        lags = times(oracle.quadratic(0, -1, 1), THIRD)
        for sign in (1, -1):
            self.found(lags, ((0, 1), (1, 1)), sign)
            self.found(lags, "all", sign)

    def test_all_but_touching(self):
        below = lags_sum(EVEN, (real(-1, 10 ** 60),))
        self.found(below, ((1, 2), (1, 1)), -1)
        self.found(below, "all", -1)
        self.assertIsNone(turn_with(lags_sum(EVEN, (real(1, 10 ** 60),)), "all", -1))

    def test_none(self):
        for sign in (1, -1):
            self.assertIsNone(turn_with((NIL,) * 3, "all", sign))
            self.assertIsNone(turn_with((real(-sign),), "all", sign))
        self.assertIsNone(turn_with(WAVE, "all", -1))


class Peaks(unittest.TestCase):
    def test_by_hand(self):
        for lags, peaks in [(WAVE, 1), ((TWO,), 0), ((NIL,) * 8, 0), ((TWO, NIL), 0), (OPPOSITE, 1), ((NIL, I), 1),
                            ((NIL, NIL, I), 2), ((NIL,) * 7 + (ONE,), 7), ((NIL,) * 7 + (real(-1),), 7), (EVEN, 7),
                            (BINOMIAL, 1), ((real(3), TWO, ONE), 2), ((real(HUGE), real(1, HUGE)), 1)]:
            self.assertEqual(peaks_of(lags), peaks)

    def test_slopes_that_stay_0_for_a_moment(self):
        # 8 cos - cos 2 is as flat as can be at half, and cos * 4 + cos 2 at half has no peak
        self.assertEqual(peaks_of((NIL, real(4), real(-1))), 1)
        self.assertEqual(peaks_of((NIL, real(4), real(1))), 1)
        # - sin * (1 - cos): slope cos 2 - cos is 0 twice at 1, where there is no peak
        self.assertEqual(peaks_of((NIL, I, ((0, 1), (-1, 2)))), 1)
        self.assertEqual(signs_on(slope_lags((NIL, I, ((0, 1), (-1, 2)))), ((-1, 4), (1, 4))), (-1, 0, -1))

    def test_against_sturm(self):
        dice = random.Random(22)
        for _ in range(60):
            lags = some_lags(dice)
            row = oracle.sign_row(slope_lags(lags), "all")
            peaks = 0
            for k, sign in enumerate(row):
                behind = row[(k + 1) % len(row)]
                peaks += (row[k - 1], sign, behind) == (1, 0, -1)
            self.assertEqual(peaks_of(lags), peaks, lags)

    def test_turning_changes_no_peaks(self):
        for lags in (EVEN, BINOMIAL, THIRD, (ONE, I, TWO), (NIL, real(4), real(-1))):
            for turn in SPOTS:
                self.assertEqual(peaks_of(turned_lags(lags, turn)), peaks_of(lags))


class Reckoning(unittest.TestCase):
    def test_slopes(self):
        self.assertEqual(slope_lags((TWO,)), (NIL,))
        self.assertEqual(slope_lags(WAVE), (NIL, I))
        self.assertEqual(slope_lags((ONE, ONE, I, ((1, 2), (-1, 3)))), (NIL, I, real(-2), ((1, 1), (3, 2))))
        self.assertEqual(slope_lags((TWO, NIL, NIL)), (NIL,) * 3)
        for lags in LAGS:
            self.assertTrue(is_lags(slope_lags(lags)))
            self.assertEqual(len(slope_lags(lags)), len(lags))

    def test_the_slope_is_the_slope_by_the_angle(self):
        # by the angle: times (1 + t t) / 2 that by t
        for lags in (WAVE, EVEN[:4], (ONE, I, TWO), THIRD):
            n, poly = len(lags) - 1, oracle.polynomial(lags)
            for t in (Fraction(0), Fraction(1, 2), Fraction(-3)):
                whole = 1 + t * t
                value = oracle.at(poly, t) / whole ** n
                steep = oracle.at([k * a for k, a in enumerate(poly)][1:], t) / whole ** n - value * n * 2 * t / whole
                self.assertEqual(pattern_at(slope_lags(lags), oracle.pair(t)), oracle.pair(steep * whole / 2))

    def test_times(self):
        self.assertEqual(lags_times(WAVE, (1, 2)), (ONE, real(1, 2)))
        self.assertEqual(lags_times((ONE, ((2, 3), (-3, 4))), (-4, 3)), (real(-4, 3), ((-8, 9), (1, 1))))
        self.assertEqual(lags_times((ONE, I, NIL), (0, 1)), (NIL,) * 3)
        for lags in LAGS:
            self.assertEqual(lags_times(lags, (1, 1)), lags)
            self.assertTrue(is_lags(lags_times(lags, (HUGE, 3))))

    def test_sums(self):
        self.assertEqual(lags_sum(WAVE, (TWO,)), (real(4), ONE))
        self.assertEqual(lags_sum((TWO,), WAVE), (real(4), ONE))
        self.assertEqual(lags_sum((ONE, I, NIL), (real(-1), ((0, 1), (-1, 1)))), (NIL,) * 3)
        self.assertEqual(lags_sum((NIL,) * 8, (ONE,)), (ONE,) + (NIL,) * 7)
        for one, other in product(LAGS, LAGS):
            both = lags_sum(one, other)
            self.assertTrue(is_lags(both))
            self.assertEqual(len(both), max(len(one), len(other)))
            for turn in SPOTS[:5]:
                self.assertEqual(pattern_at(both, turn), oracle.pair(oracle.value(one, turn) + oracle.value(other, turn)))

    def test_turned(self):
        self.assertEqual(turned_lags(WAVE, (1, 1)), (TWO, ((0, 1), (-1, 1))))
        self.assertEqual(turned_lags((ONE, ONE, ONE, ONE), "half"), (ONE, real(-1), ONE, real(-1)))
        self.assertEqual(turned_lags((ONE, ONE, ONE, ONE, ONE), (1, 1)),
                         (ONE, ((0, 1), (-1, 1)), real(-1), I, ONE))
        self.assertEqual(turned_lags((ONE, I, NIL), (1, 2)), (ONE, ((4, 5), (3, 5)), NIL))
        for lags in LAGS:
            self.assertEqual(turned_lags(lags, (0, 1)), lags)

    def test_turned_by_w_a_pattern_is_at_z_joined_with_w_what_it_was_at_z(self):
        for lags, turn, spot in product(LAGS[:-2] + [EVEN, (ONE, I, TWO)], SPOTS, SPOTS[::2]):
            turned = turned_lags(lags, turn)
            self.assertTrue(is_lags(turned) and len(turned) == len(lags))
            self.assertEqual(pattern_at(turned, joined_turns(spot, turn)), pattern_at(lags, spot))

    def test_turned_far(self):
        far = turn_times(turn_times((3, 8), 60), 7)
        turned = turned_lags(EVEN, far)
        self.assertTrue(is_lags(turned))
        self.assertEqual([zeros_on(turned, "all"), peaks_of(turned)], [7, 7])
        self.assertEqual(signs_on(turned, (far, joined_turns(far, "half"))), (1, 0) * 4)
        self.assertEqual(turned_lags(turned, back_turn(far)), EVEN)
