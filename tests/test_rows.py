"""Points 2, 11 and 12: rows, what they send, power, lags, nulls, and which one is never more."""

import random
import unittest
from itertools import product

import oracle
from helpers import HALF, HUGE, I, LESS, NIL, NO_ROWS, ONE, ROWS, TWO, WAVE, real
from mastrows.makers import binomial_row, even_row, fed, steered
from mastrows.patterns import pattern_at, peaks_of
from mastrows.rows import (is_null, is_row, lags_of, lobes_of, mean_power, more_at, never_more, nulls_on, power_at,
                           sent)
from mastrows.turns import is_on, is_turn, turn_times, turned_arc
from samples import ARCS, FACTORS, SPOTS, some_row, whole

PAIR, TRIPLE = (ONE, ONE), (ONE,) * 3
BEND = ((0, 1), (1, 1))


class IsRow(unittest.TestCase):
    def test_rows(self):
        for row in ROWS + FACTORS + [(NIL,) * k + (I,) + (NIL,) * (7 - k) for k in range(8)]:
            self.assertIs(is_row(row), True)

    def test_all_else(self):
        for k, value in enumerate(NO_ROWS):
            with self.subTest(k):
                self.assertIs(is_row(value), False)

    def test_how_many(self):
        for size in range(12):
            self.assertIs(is_row((ONE,) * size), 1 <= size <= 8)
            self.assertIs(is_row((NIL,) * size), False)


class Sent(unittest.TestCase):
    def test_by_hand(self):
        self.assertEqual([sent(TRIPLE, turn) for turn in ((0, 1), (1, 1), (-1, 1), "half")],
                         [real(3), I, ((0, 1), (-1, 1)), ONE])
        self.assertEqual([sent((I,), turn) for turn in SPOTS], [I] * 8)
        self.assertEqual(sent((NIL, ONE), (1, 2)), ((3, 5), (4, 5)))
        self.assertEqual(sent((HALF, NIL, HALF), (1, 1)), NIL)

    def test_against_the_sum(self):
        dice = random.Random(40)
        for row in ROWS + FACTORS + [some_row(dice) for _ in range(30)]:
            for turn in SPOTS:
                self.assertEqual(sent(row, turn), oracle.told(oracle.sent(row, turn)))
                self.assertEqual(power_at(row, turn), oracle.pair(oracle.power(row, turn)))
                self.assertIs(is_null(row, turn), oracle.sent(row, turn) == (0, 0))

    def test_power_is_the_pattern_of_the_lags(self):
        for row in ROWS + FACTORS:
            self.assertEqual(lags_of(row), oracle.lags(row))
            for turn in SPOTS:
                self.assertEqual(power_at(row, turn), pattern_at(lags_of(row), turn))

    def test_as_many_lags_as_feeds(self):
        self.assertEqual(lags_of((NIL, TWO, NIL)), (real(4), NIL, NIL))
        self.assertEqual(lags_of((ONE, NIL)), (ONE, NIL))
        self.assertEqual(lags_of((ONE, I)), (TWO, I))
        self.assertEqual(lags_of((I, ONE)), (TWO, ((0, 1), (-1, 1))))
        for k in range(8):
            self.assertEqual(lags_of((NIL,) * k + (I,) + (NIL,) * (7 - k)), (ONE,) + (NIL,) * 7)

    def test_mean_power(self):
        self.assertEqual([mean_power(TRIPLE), mean_power((HALF, I)), mean_power((NIL, NIL, ((3, 1), (4, 1))))],
                         [(3, 1), (5, 4), (25, 1)])
        for row in ROWS + FACTORS:
            self.assertEqual(mean_power(row), lags_of(row)[0][0])

    def test_any_size(self):
        far = turn_times((99, 100), 60)
        row = steered(steered((ONE,) * 8, far), (1, HUGE))
        self.assertEqual(power_at(steered((ONE,) * 8, far), far), (64, 1))
        self.assertEqual(mean_power(row), (8, 1))
        self.assertEqual(nulls_on(row, "all"), 7)
        self.assertEqual(sent((real(HUGE), ONE), "half"), real(HUGE - 1))


class Nulls(unittest.TestCase):
    def test_by_hand(self):
        self.assertEqual([nulls_on(TRIPLE, "all"), nulls_on(PAIR, BEND), nulls_on(PAIR, "all"), nulls_on((TWO, ONE), "all")],
                         [2, 0, 1, 0])
        self.assertEqual([nulls_on(even_row(many), "all") for many in range(1, 9)], list(range(8)))
        self.assertEqual([nulls_on(binomial_row(many), "all") for many in range(1, 9)], [0] + [1] * 7)
        self.assertEqual([nulls_on((ONE,) + (NIL,) * k + (LESS,), "all") for k in range(7)], list(range(1, 8)))

    def test_at_half_and_at_ends(self):
        for row in (PAIR, binomial_row(8), (NIL, I, I), (ONE, TWO, ONE, NIL)):
            for arc, many in [("all", 1), (("half", (0, 1)), 1), (((0, 1), "half"), 1), (((1, 1), (-1, 1)), 1),
                              (((-1, 1), (1, 1)), 0), (((HUGE, 1), (-HUGE, 1)), 1), (((-HUGE, 1), (HUGE, 1)), 0)]:
                self.assertEqual(nulls_on(row, arc), many, (row, arc))
        even = even_row(4)
        self.assertEqual([nulls_on(even, arc) for arc in (((1, 1), "half"), ("half", (1, 1)), ((-1, 1), (1, 1)),
                                                          ((1, 1), (-1, 1)), ((0, 1), (1, HUGE)))], [2, 3, 2, 3, 0])

    def test_several_times(self):
        row = oracle.product(*[whole(1, (0, 1))] * 3, *[whole(1, 1)] * 2, *[whole(1, 0, 1)])
        # 1 + i z is 0 at i, 1 + z at - 1, 1 + z z at i and - i
        self.assertEqual([nulls_on(row, "all"), nulls_on(row, BEND), nulls_on(row, ((1, 1), "half")),
                          nulls_on(row, ((2, 1), (-2, 1)))], [3, 1, 2, 1])

    def test_that_no_fraction_tells(self):
        # 1 + z + z z is 0 at a third of the circle, at the turns 3^(1/2) and - 3^(1/2)
        self.assertEqual([nulls_on(TRIPLE, arc) for arc in (((1, 1), (2, 1)), ((2, 1), (-2, 1)), ((-2, 1), (-1, 1)),
                                                            ((26, 15), (7, 4)), ((7, 4), (26, 15)))], [1, 0, 1, 0, 2])
        square = oracle.product(TRIPLE, TRIPLE, TRIPLE)
        self.assertEqual([nulls_on(square, "all"), nulls_on(square, ((1, 1), (2, 1)))], [2, 1])
        self.assertEqual([nulls_on((NIL,) + TRIPLE + (NIL,), "all"), nulls_on(whole(5, -8, 5), "all")], [2, 2])

    def test_at_turns_that_a_great_prime_divides(self):
        for prime in (2 ** 61 - 1, 2305843009213693921):
            for turn in ((1, prime), (prime, 1), (-2, prime), (prime, 3)):
                row = steered((ONE, LESS), turn)
                self.assertEqual([nulls_on(row, "all"), nulls_on(row, (turn, "half")), is_null(row, turn)], [1, 1, True])
                both = oracle.product(row, (TWO, ONE), row)
                self.assertEqual([nulls_on(both, "all"), nulls_on(both, ("half", turn))], [1, 1])

    def test_rows_without(self):
        for row in ((I,), (NIL, ONE, NIL), (TWO, ONE), (ONE, TWO), (ONE, NIL, NIL, TWO), (real(HUGE), real(HUGE - 1))):
            self.assertEqual(nulls_on(row, "all"), 0)

    def test_against_the_power(self):
        dice = random.Random(41)
        for _ in range(30):
            row, arc = some_row(dice), dice.choice(ARCS)
            self.assertEqual(nulls_on(row, arc), oracle.sign_row(oracle.lags(row), arc).count(0), (row, arc))


class Lobes(unittest.TestCase):
    def test_by_hand(self):
        self.assertEqual([lobes_of(even_row(many)) for many in range(1, 9)], [0, 1, 2, 3, 4, 5, 6, 7])
        self.assertEqual([lobes_of(binomial_row(many)) for many in range(1, 9)], [0] + [1] * 7)
        self.assertEqual([lobes_of((ONE,) + (NIL,) * k + (I,)) for k in range(7)], list(range(1, 8)))
        self.assertEqual([lobes_of((NIL, TWO, NIL)), lobes_of((I,))], [0, 0])

    def test_against_the_slope(self):
        dice = random.Random(42)
        for _ in range(12):
            row = some_row(dice, 6)
            self.assertEqual(lobes_of(row), peaks_of(oracle.lags(row)))
            signs = [s for s in oracle.sign_row(oracle.slope(oracle.lags(row)), "all") if s != 0]
            falls = sum(a > 0 > b for a, b in zip(signs, signs[1:] + signs[:1]))
            self.assertEqual(lobes_of(row), falls)


class NeverMore(unittest.TestCase):
    def test_of_the_document(self):
        self.assertEqual([never_more(PAIR, TRIPLE, ((0, 1), (1, 2))), never_more(PAIR, TRIPLE, "all"),
                          more_at(PAIR, TRIPLE, ((0, 1), (1, 2)))], [True, False, None])

    def test_of_itself_and_of_one_power(self):
        for row in ROWS[:11] + FACTORS:
            for other in (row, oracle.mirror(row), tuple(oracle.told(oracle.times(oracle.number(feed), (0, 1)))
                                                         for feed in row)):
                for arc in ("all", BEND, ("half", (0, 1))):
                    self.assertIs(never_more(row, other, arc), True)
                    self.assertIsNone(more_at(row, other, arc))

    def test_multiples(self):
        for row in ROWS[:11] + FACTORS:
            for factor in (TWO, ((3, 5), (5, 4)), real(-HUGE - 1, HUGE)):
                more = fed(row, factor)
                for arc in ("all", BEND, ("half", (0, 1)), ((1, 1), (-1, 1))):
                    self.assertIs(never_more(row, more, arc), True)
                    self.assertIs(never_more(more, row, arc), False)
                    self.assertIsNone(more_at(row, more, arc))
                    turn = more_at(more, row, arc)
                    self.assertTrue(is_on(arc, turn) and not is_null(row, turn))

    def test_touching(self):
        # 2 + 2 cos is at most 4, and that at 1
        self.assertEqual([never_more(PAIR, (TWO,), "all"), never_more((TWO,), PAIR, "all"), more_at(PAIR, (TWO,), "all")],
                         [True, False, None])
        self.assertIs(never_more(PAIR, (real(2 * HUGE - 1, HUGE),), "all"), False)
        self.assertIs(never_more(PAIR, (real(2 * HUGE - 1, HUGE),), ((1, 100), (-1, 100))), True)

    def test_narrow_pieces(self):
        near = 10 ** 60
        level = (real(2 * near - 1, near),)
        for turn in ((0, 1), (1, 1), "half", (-3, 10 ** 40), (10 ** 40, 7)):
            row = steered(PAIR, turn)
            self.assertIs(never_more(row, level, "all"), False)
            told = more_at(row, level, "all")
            self.assertGreater(oracle.power(row, told), oracle.power(level, told))
            beside = turned_arc(((-1, 10 ** 20), (1, 10 ** 20)), turn)
            self.assertIs(is_on(beside, told), True)
            self.assertIs(is_on(beside, more_at(row, level, beside)), True)
            self.assertIsNone(more_at(row, level, beside[::-1]))
            self.assertIs(never_more(row, level, beside[::-1]), True)

    def test_turns_told(self):
        dice = random.Random(43)
        for _ in range(40):
            row, other, arc = some_row(dice, 6), some_row(dice, 6), dice.choice(ARCS)
            signs = oracle.sign_row(oracle.summed(oracle.lags(row), oracle.lags(other), -1), arc)
            turn = more_at(row, other, arc)
            self.assertIs(never_more(row, other, arc), 1 not in signs, (row, other, arc))
            if 1 in signs:
                self.assertTrue(is_turn(turn) and is_on(arc, turn))
                self.assertGreater(oracle.power(row, turn), oracle.power(other, turn))
            else:
                self.assertIsNone(turn)

    def test_on_arcs(self):
        for arc, (row, other) in product(ARCS[::5], [(PAIR, (ONE,)), ((ONE,), PAIR), (TRIPLE, PAIR), ((TWO, ONE), TRIPLE)]):
            difference = oracle.summed(oracle.lags(row), oracle.lags(other), -1)
            self.assertIs(never_more(row, other, arc), 1 not in oracle.sign_row(difference, arc))

    def test_turned(self):
        far = turn_times((3, 8), 60)
        row, other = steered(PAIR, far), steered(TRIPLE, far)
        self.assertIs(never_more(row, other, turned_arc(((0, 1), (1, 2)), far)), True)
        self.assertIs(never_more(row, other, "all"), False)
        self.assertEqual(WAVE, lags_of(PAIR))
