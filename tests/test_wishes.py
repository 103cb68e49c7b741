"""Point 15: wished patterns, and the weights and rows that add up to them."""

import random
import unittest

import oracle
from helpers import HUGE, I, LAGS, NIL, ONE, TWO, WAVE, real
from mastrows.factors import near_row, solved, weighted_pairs
from mastrows.makers import binomial_row, even_row, steered
from mastrows.patterns import lags_sum, lags_times, pattern_at, turned_lags
from mastrows.rows import is_row, lags_of
from mastrows.turns import is_turn, turn_times
from mastrows.wishes import dark_turn, is_wished, least_raise, rows_for
from samples import BINOMIAL, EVEN, FACTORS, FOURTH, OPPOSITE, ROOT_TWO, SPOTS, THIRD, some_lags, some_row, times, whole

DARK = [(real(-1),), (real(-1, HUGE), NIL), (NIL, ONE), (NIL, I), (ONE, ONE), (NIL,) * 7 + (I,), ROOT_TWO, THIRD, FOURTH,
        lags_times(WAVE, (-1, 1)), lags_times(EVEN, (-1, 3)), lags_sum(EVEN, (real(-1, 10 ** 40),)),
        lags_sum(WAVE, (real(-1, HUGE),)), (real(1999, 1000), ONE), times(WAVE, ROOT_TWO, ROOT_TWO, (NIL, I))]


class Wished(unittest.TestCase):
    def adds_up(self, lags):
        parts = rows_for(lags)
        self.assertIsInstance(parts, tuple)
        total = (NIL,)
        for weight, row in parts:
            self.assertTrue(oracle.pair(oracle.fraction(weight)) == weight and weight[0] > 0)
            self.assertTrue(is_row(row) and len(row) <= len(lags))
            total = oracle.summed(total, oracle.lags(row), oracle.fraction(weight))
        self.assertEqual(oracle.line(total), oracle.line(lags))
        self.assertIs(is_wished(lags), True)
        self.assertIsNone(dark_turn(lags))
        return parts

    def is_dark(self, lags):
        self.assertIs(is_wished(lags), False)
        self.assertIsNone(rows_for(lags))
        turn = dark_turn(lags)
        self.assertTrue(is_turn(turn))
        self.assertLess(oracle.value(lags, turn), 0)

    def test_of_the_document(self):
        self.assertEqual([is_wished(WAVE), is_wished((ONE, ONE)), dark_turn(WAVE), rows_for((ONE, ONE)), rows_for((NIL,))],
                         [True, False, None, None, ()])

    def test_nought(self):
        for size in range(1, 9):
            self.assertEqual(rows_for((NIL,) * size), ())
            self.assertIs(is_wished((NIL,) * size), True)

    def test_the_same_everywhere(self):
        for lags in ((ONE,), (real(7, 3), NIL), (real(1, HUGE),) + (NIL,) * 7, (real(HUGE),)):
            self.adds_up(lags)

    def test_zeros_on_the_circle(self):
        for lags in (WAVE, OPPOSITE, EVEN, BINOMIAL, times(ROOT_TWO, ROOT_TWO), times(THIRD, THIRD), times(FOURTH, FOURTH),
                     times(WAVE, WAVE, WAVE), times(ROOT_TWO, ROOT_TWO, WAVE), times(THIRD, THIRD, OPPOSITE, (real(3), I)),
                     times(ROOT_TWO, ROOT_TWO, THIRD, THIRD), times(WAVE, (real(5), TWO)), WAVE + (NIL,) * 6,
                     oracle.quadratic(0, 0, 1), oracle.quadratic(1, -2, 1), times(*[oracle.quadratic(1, 4, 4)] * 3),
                     lags_of(whole(1, 1, 1)), lags_of(whole(5, -8, 5)), lags_of(binomial_row(5))):
            self.adds_up(lags)
            self.adds_up(lags_times(lags, (1, 3)))
            for turn in ((1, 3), "half", (-5, 2)):
                self.adds_up(turned_lags(lags, turn))

    def test_above_nought(self):
        for lags in ((TWO, real(1, 2)), (real(3), ONE), (real(7), NIL, I), (real(5), ONE, I, ((1, 2), (1, 3))),
                     (real(15),) + (ONE,) * 7, (real(2 * HUGE), real(HUGE - 1)), (ONE, ((1, 4), (1, 5)), (NIL[0], (1, 7))),
                     lags_of(whole(2, 1)), lags_of(whole(1, -1, -1)), lags_of((TWO, I, ONE, real(7)))):
            self.adds_up(lags)

    def test_all_but_touching(self):
        for far in (10, 10 ** 6, 10 ** 30, 10 ** 100):
            for lags in (WAVE, EVEN, BINOMIAL, times(ROOT_TWO, ROOT_TWO), times(FOURTH, FOURTH), lags_of(even_row(3))):
                self.adds_up(lags_sum(lags, (real(1, far),)))
                self.is_dark(lags_sum(lags, (real(-1, far),)))

    def test_powers_of_rows(self):
        dice = random.Random(70)
        for _ in range(60):
            row = some_row(dice)
            self.adds_up(lags_of(row))
        for factor in FACTORS:
            self.adds_up(lags_of(factor))
            self.adds_up(lags_sum(lags_of(factor), lags_of(even_row(8))))

    def test_sums_of_powers(self):
        dice = random.Random(71)
        for _ in range(40):
            lags = (NIL,)
            for _ in range(dice.randint(1, 3)):
                lags = lags_sum(lags, lags_times(lags_of(some_row(dice)), (dice.randint(1, 5), 6 * dice.randint(0, 3) + 1)))
            self.adds_up(lags)

    def test_any_lags(self):
        dice, met = random.Random(72), set()
        for _ in range(150):
            lags = some_lags(dice)
            if dice.random() < 0.5 and len(lags) < 5:
                lags = times(lags, lags)
            wished = -1 not in oracle.sign_row(lags, "all")
            met.add(wished)
            if wished:
                self.adds_up(lags)
            else:
                self.is_dark(lags)
        self.assertEqual(met, {True, False})

    def test_dark_ones(self):
        for lags in DARK:
            self.is_dark(lags)

    def test_narrow_dark_pieces(self):
        for turn in ((0, 1), "half", (1, 3), (10 ** 50, 1), (-1, 10 ** 50)):
            lags = lags_sum(turned_lags(OPPOSITE, turn), (real(-1, 10 ** 80),))
            self.is_dark(lags)
            self.adds_up(lags_sum(lags, (real(3, 10 ** 80),)))

    def test_any_size(self):
        far = turn_times((7, 10), 60)
        for row in (even_row(4), whole(2, 1, 5), whole(1, 1)):
            lags = lags_of(steered(row, far))
            self.adds_up(lags)
            self.adds_up(lags_sum(lags, (real(1, 1000),)))
            for _, part in rows_for(lags):
                self.adds_up(lags_of(part))

    def test_what_is_told_may_be_passed(self):
        for lags in (lags_sum(EVEN, (real(1, 1000),)), (real(7), NIL, I)):
            for weight, row in rows_for(lags):
                more = lags_times(lags_of(row), weight)
                self.assertIs(is_wished(more), True)
                self.assertGreaterEqual(pattern_at(more, (1, 3))[0], 0)


class LeastRaise(unittest.TestCase):
    def test_by_hand(self):
        self.assertEqual([least_raise((ONE, ONE), 10), least_raise(WAVE, 10), least_raise((NIL,), 7)], [10, 0, 0])
        # 2 cos - 2 sin is at least minus the root of 8
        lags = (NIL, ((1, 1), (1, 1)))
        self.assertEqual([least_raise(lags, parts) for parts in (1, 10, 1000000)], [3, 29, 2828428])
        self.assertEqual([least_raise(lags_times(WAVE, (-1, 1)), parts) for parts in (1, 3)], [4, 12])
        self.assertEqual([least_raise((real(-1, HUGE),), parts) for parts in (1, 1000000)], [1, 1])
        self.assertEqual([least_raise((real(3), ONE), 1), least_raise((real(2 * HUGE - 1, HUGE), ONE), 1000000)], [0, 1])

    def test_just_enough(self):
        dice = random.Random(73)
        for lags in DARK + LAGS[:7] + [some_lags(dice) for _ in range(20)]:
            for parts in (1, 7, 1000000):
                raised = least_raise(lags, parts)
                self.assertGreaterEqual(raised, 0)
                self.assertIs(is_wished(oracle.summed(lags, (oracle.told((raised, 0)),), oracle.Fraction(1, parts))), True)
                if raised > 0:
                    less = oracle.summed(lags, (oracle.told((raised - 1, 0)),), oracle.Fraction(1, parts))
                    self.assertIs(is_wished(less), False)
                    self.assertLess(min(oracle.value(less, dark_turn(less)), *[oracle.value(less, s) for s in SPOTS]), 0)


class Steps(unittest.TestCase):
    """What is not met by the way in which the parts are put together."""

    def test_equations_that_are_not_solved(self):
        self.assertIsNone(solved([[0, 5]], 8))
        self.assertIsNone(solved([[1 << 8, 1 << 8, 3], [1 << 8, 1 << 8, 4]], 8))
        self.assertEqual(solved([[0, 1 << 8, 3], [1 << 8, 0, 4]], 8), [4, 3])

    def test_too_few_bits(self):
        # the pattern 2 + 2 cos + 1 / 10^30 is not met with numbers of 20 bits
        far = 10 ** 30
        pairs = [(2 * far + 1, 0), (far, 0)]
        self.assertIsNone(near_row(pairs, 19, 20))
        self.assertIsNotNone(near_row(pairs, 110, 150))

    def test_parts_are_of_as_many_masts(self):
        for top, bottom, poly in weighted_pairs([(30, 0), (1, 1), (2, -3), (0, 1)]):
            self.assertTrue(top > 0 and bottom > 0 and 1 <= len(poly) <= 4)
        self.assertEqual(weighted_pairs([(7, 0)]), [(7, 1, [(1, 0)])])
