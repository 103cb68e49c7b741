"""Points 16 and 17: rows made, and rows made of rows."""

import random
import unittest
from math import comb

import oracle
from helpers import HUGE, I, LESS, NIL, ONE, ROWS, TWO, real
from mastrows.complexes import size_square
from mastrows.errors import InvalidComplex, TooManyMasts
from mastrows.makers import (back_row, binomial_row, even_row, fed, joined_rows, mirrored, row_of_rows, spread,
                             steered)
from mastrows.rows import is_row, lags_of, nulls_on, power_at, sent
from mastrows.turns import back_turn, joined_turns, turn_times
from samples import FACTORS, SPOTS, some_row, whole

SHORT = [row for row in ROWS + FACTORS if len(row) < 3]


class Plain(unittest.TestCase):
    def test_even(self):
        self.assertEqual([even_row(many) for many in range(1, 9)], [(ONE,) * many for many in range(1, 9)])

    def test_binomial(self):
        self.assertEqual(binomial_row(1), (ONE,))
        self.assertEqual(binomial_row(8), whole(1, 7, 21, 35, 35, 21, 7, 1))
        for many in range(1, 9):
            self.assertEqual(binomial_row(many), tuple(real(comb(many - 1, k)) for k in range(many)))
            self.assertEqual(binomial_row(many), oracle.product(*[(ONE, ONE)] * (many - 1)))


class Steered(unittest.TestCase):
    def test_by_hand(self):
        self.assertEqual([steered((ONE, ONE), (1, 1)), steered((ONE, ONE), "half"), steered((ONE,) * 4, (1, 1))],
                         [(ONE, ((0, 1), (-1, 1))), (ONE, LESS), (ONE, ((0, 1), (-1, 1)), LESS, I)])
        self.assertEqual(steered((TWO, I), (1, 2)), (TWO, ((4, 5), (3, 5))))

    def test_what_is_sent_is_turned(self):
        for row in ROWS[:11] + FACTORS:
            for turn in SPOTS:
                for other in SPOTS[::3]:
                    self.assertEqual(sent(steered(row, turn), joined_turns(other, turn)), sent(row, other))
                self.assertEqual(steered(steered(row, turn), back_turn(turn)), row)
            self.assertEqual(steered(row, (0, 1)), row)

    def test_any_size(self):
        far = turn_times((7, 11), 60)
        row = steered(even_row(8), far)
        self.assertEqual(steered(row, back_turn(far)), even_row(8))
        self.assertEqual([power_at(row, far), nulls_on(row, "all")], [(64, 1), 7])
        self.assertEqual(steered(steered(row, far), turn_times(far, -2)), even_row(8))
        self.assertEqual(power_at(steered((ONE, ONE), (HUGE, 1)), (HUGE, 1)), (4, 1))


class Mirrored(unittest.TestCase):
    def test_by_hand(self):
        self.assertEqual([mirrored((ONE, I)), mirrored((NIL, TWO)), mirrored((I,))],
                         [(((0, 1), (-1, 1)), ONE), (TWO, NIL), (((0, 1), (-1, 1)),)])

    def test_same_power(self):
        for row in ROWS + FACTORS:
            self.assertEqual(lags_of(mirrored(row)), lags_of(row))
            self.assertEqual(mirrored(mirrored(row)), row)
            self.assertEqual(mirrored(row), oracle.mirror(row))


class BackRow(unittest.TestCase):
    def test_power_of_the_back(self):
        self.assertEqual([back_row((ONE, TWO)), back_row((ONE, I, NIL))], [(TWO, ONE), (NIL, I, ONE)])
        for row in ROWS[:11] + FACTORS:
            for turn in SPOTS:
                self.assertEqual(power_at(back_row(row), turn), power_at(row, back_turn(turn)))


class Fed(unittest.TestCase):
    def test_feeds(self):
        self.assertEqual([fed((ONE,), I), fed((ONE, NIL, I), I), fed((TWO, I), real(-1, 2))],
                         [(I,), (I, NIL, LESS), (LESS, ((0, 1), (-1, 2)))])

    def test_power(self):
        for number in (I, TWO, ((3, 5), (-4, 7)), real(1, HUGE)):
            for row in ROWS[:11]:
                for turn in SPOTS[::3]:
                    wanted = oracle.fraction(size_square(number)) * oracle.power(row, turn)
                    self.assertEqual(power_at(fed(row, number), turn), oracle.pair(wanted))

    def test_nought_is_refused(self):
        for number in (NIL, ((0, 1), (0, 1))):
            with self.assertRaises(InvalidComplex) as caught:
                fed((ONE,), number)
            self.assertIs(caught.exception.given, number)


class Joined(unittest.TestCase):
    def test_by_hand(self):
        self.assertEqual(joined_rows((ONE, ONE), (ONE, ONE)), whole(1, 2, 1))
        self.assertEqual(joined_rows((ONE, I), (I, TWO)), (I, ONE, ((0, 1), (2, 1))))
        self.assertEqual(joined_rows((NIL, ONE), (TWO, NIL)), (NIL, TWO, NIL))

    def test_product(self):
        dice = random.Random(50)
        for _ in range(60):
            row, other = some_row(dice, 5), some_row(dice, 4)
            joined = joined_rows(row, other)
            self.assertEqual(joined, oracle.product(row, other))
            self.assertEqual(len(joined), len(row) + len(other) - 1)
            self.assertTrue(is_row(joined))

    def test_eight_masts_and_nine(self):
        for size in range(1, 9):
            self.assertEqual(joined_rows((ONE,) * size, (I,) + (NIL,) * (8 - size))[:1], (I,))
            for other in range(10 - size, 9):
                with self.assertRaises(TooManyMasts):
                    joined_rows((ONE,) * size, (ONE,) + (NIL,) * (other - 1))


class Spread(unittest.TestCase):
    def test_by_hand(self):
        self.assertEqual(spread((ONE, ONE), 2), (ONE, NIL, ONE))
        self.assertEqual(spread((ONE, I, TWO), 3), (ONE, NIL, NIL, I, NIL, NIL, TWO))
        self.assertEqual(spread((NIL, ONE), 7), (NIL,) * 7 + (ONE,))
        self.assertEqual([spread(row, 1) for row in ROWS], ROWS)

    def test_one_mast(self):
        for step in (1, 2, 8, 9, 10 ** 30, HUGE):
            self.assertEqual(spread((I,), step), (I,))

    def test_what_is_sent(self):
        for row in SHORT:
            for step in range(1, 8):
                for turn in SPOTS:
                    self.assertEqual(sent(spread(row, step), turn), sent(row, turn_times(turn, step)))

    def test_eight_masts_and_more(self):
        for size in range(2, 9):
            for step in list(range(1, 9)) + [HUGE]:
                if (size - 1) * step < 8:
                    self.assertEqual(len(spread((ONE,) * size, step)), (size - 1) * step + 1)
                else:
                    with self.assertRaises(TooManyMasts):
                        spread((ONE,) * size, step)


class RowOfRows(unittest.TestCase):
    def test_by_hand(self):
        self.assertEqual(row_of_rows((ONE, ONE), (ONE, ONE)), (ONE,) * 4)
        self.assertEqual(row_of_rows((ONE, I), (TWO, NIL, ONE)), (TWO, NIL, ONE, ((0, 1), (2, 1)), NIL, I))
        self.assertEqual(row_of_rows((I,), (ONE, TWO)), (I, ((0, 1), (2, 1))))
        self.assertEqual(row_of_rows((ONE, TWO), (I,)), (I, ((0, 1), (2, 1))))
        self.assertEqual(row_of_rows((NIL, ONE), (ONE, NIL)), (NIL, NIL, ONE, NIL))

    def test_power(self):
        for row in SHORT:
            for other in SHORT + [whole(1, 2, (0, 1)), whole(1, 0, 0, 3)]:
                both = row_of_rows(row, other)
                self.assertEqual(len(both), len(row) * len(other))
                for turn in SPOTS[::3]:
                    wanted = oracle.power(row, turn_times(turn, len(other))) * oracle.power(other, turn)
                    self.assertEqual(oracle.power(both, turn), wanted)

    def test_eight_masts_and_more(self):
        for size in range(1, 9):
            for other in range(1, 9):
                if size * other <= 8:
                    self.assertEqual(row_of_rows((ONE,) * size, (ONE,) * other), (ONE,) * (size * other))
                else:
                    with self.assertRaises(TooManyMasts):
                        row_of_rows((ONE,) * size, (ONE,) * other)
