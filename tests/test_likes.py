"""Points 13 and 14: rows of one power, what they have in common, and how many there are."""

import random
import unittest
from itertools import product

import oracle
from helpers import HUGE, I, LAGS, NIL, ONE, ROWS, TWO, WAVE, real
from mastrows.complexes import size_square
from mastrows.cpolys import PRIME
from mastrows.likes import like_parts, parting_turn, rows_of_power, same_power, trimmed
from mastrows.makers import back_row, binomial_row, even_row, fed, steered
from mastrows.patterns import lags_sum
from mastrows.rows import is_row, lags_of
from mastrows.turns import is_turn, point_of, turn_times
from samples import BINOMIAL, EVEN, FACTORS, FOURTH, ROOT_TWO, THIRD, some_row, times, whole

UNITS = [ONE, I, ((3, 5), (-4, 5)), point_of((7, 3))]


def padded(row, ahead, behind):
    return (NIL,) * ahead + row + (NIL,) * behind


class Trimmed(unittest.TestCase):
    def test_noughts(self):
        self.assertEqual([trimmed(row) for row in ((NIL, ONE, TWO), (ONE, NIL), (NIL, I, NIL, I, NIL), (TWO,))],
                         [(ONE, TWO), (ONE,), (I, NIL, I), (TWO,)])
        for ahead, behind in product(range(4), range(4)):
            for row in ((ONE,), (ONE, I), (I, NIL, ONE)):
                if ahead + behind + len(row) <= 8:
                    self.assertEqual(trimmed(padded(row, ahead, behind)), row)


class SamePower(unittest.TestCase):
    def test_of_the_document(self):
        steep, flat = (TWO, ONE), (NIL, ONE, TWO)
        self.assertEqual([same_power(steep, flat), same_power(steep, (ONE, ONE)), parting_turn(steep, flat)],
                         [True, False, None])

    def test_against_the_lags(self):
        dice = random.Random(60)
        rows = ROWS[:11] + FACTORS + [some_row(dice, 4) for _ in range(20)]
        for row, other in product(rows, rows):
            same = oracle.line(oracle.lags(row)) == oracle.line(oracle.lags(other))
            self.assertIs(same_power(row, other), same)
            turn = parting_turn(row, other)
            if same:
                self.assertIsNone(turn)
            else:
                self.assertTrue(is_turn(turn))
                self.assertNotEqual(oracle.power(row, turn), oracle.power(other, turn))

    def test_unlike_at_few_turns_alone(self):
        # both powers are the same at 1, i, - 1 and - i
        row, other = whole(1, 0, 0, 0, 2), whole(3)
        self.assertEqual([oracle.power(row, turn) - oracle.power(other, turn) for turn in ((0, 1), (1, 1), "half")], [0] * 3)
        turn = parting_turn(row, other)
        self.assertNotEqual(oracle.power(row, turn), oracle.power(other, turn))
        # and these at 0, 1, .., 6: the difference is the real part of some c_7 z^7
        many = whole(1, 0, 0, 0, 0, 0, 0, 1), whole(0, 1, 1)
        turn = parting_turn(*many)
        self.assertNotEqual(oracle.power(many[0], turn), oracle.power(many[1], turn))

    def test_any_size(self):
        row = (real(HUGE), I, TWO)
        self.assertIs(same_power(row, oracle.mirror(row)), True)
        turn = parting_turn(row, (real(HUGE + 1), I, TWO))
        self.assertNotEqual(oracle.power(row, turn), oracle.power((real(HUGE + 1), I, TWO), turn))


class LikeParts(unittest.TestCase):
    def holds(self, row, other):
        common, flipped, factor = like_parts(row, other)
        for part in (common, flipped):
            self.assertTrue(is_row(part) and trimmed(part) == part)
        self.assertEqual(size_square(factor), (1, 1))
        self.assertEqual(oracle.product(common, flipped), trimmed(row))
        self.assertEqual(oracle.product(common, oracle.mirror(flipped), (factor,)), trimmed(other))

    def test_itself_and_the_mirror(self):
        for row in ROWS + FACTORS + [even_row(8), binomial_row(8)]:
            for other in (row, oracle.mirror(row), trimmed(row), trimmed(oracle.mirror(row))):
                self.holds(row, other)
            for unit in UNITS:
                self.holds(row, fed(row, unit))
                self.holds(fed(oracle.mirror(row), unit), row)

    def test_factors_flipped(self):
        dice = random.Random(61)
        for _ in range(150):
            factors = [dice.choice(FACTORS) for _ in range(dice.randint(1, 4))]
            while sum(len(factor) - 1 for factor in factors) > 7:
                factors.pop()
            one = oracle.product(*factors)
            two = oracle.product(*[oracle.mirror(part) if dice.random() < 0.5 else part for part in factors],
                                 (dice.choice(UNITS),))
            room = 8 - len(one)
            row = padded(one, dice.randint(0, room // 2), dice.randint(0, room // 2))
            other = padded(two, dice.randint(0, room // 2), dice.randint(0, room // 2))
            with self.subTest(row=row, other=other):
                self.holds(row, other)

    def test_zeros_several_times(self):
        for part in (whole(2, 1), whole((1, 1), 3), whole(1, -1, -1)):
            mirror = oracle.mirror(part)
            row = oracle.product(part, part, (I,))
            for other in (oracle.product(part, mirror), oracle.product(mirror, mirror), row):
                self.holds(row, other)
                self.holds(other, row)
                self.holds(oracle.product(other, even_row(4)), oracle.product(row, even_row(4)))

    def test_numbers_that_a_great_prime_divides(self):
        part = (ONE, real(PRIME))
        for other in (whole(2, 1), whole((1, 1), 3), whole(1, -1, -1)):
            row = oracle.product(part, other)
            self.holds(row, oracle.product(part, oracle.mirror(other)))
            self.holds(row, oracle.mirror(row))
            self.holds(row, row)
        self.holds((real(PRIME), I, real(PRIME)), (real(PRIME), I, real(PRIME)))
        self.holds(oracle.product(part, part, (real(1, PRIME), ONE)), oracle.product(part, part, (ONE, real(1, PRIME))))

    def test_unlike_powers(self):
        self.assertIsNone(like_parts((TWO, ONE), (ONE, ONE)))
        for row, other in product(FACTORS, FACTORS):
            if oracle.line(oracle.lags(row)) != oracle.line(oracle.lags(other)):
                self.assertIsNone(like_parts(row, other))
        self.assertIsNone(like_parts(whole(1, 2, 3), back_row(whole(1, 2, (0, 3)))))

    def test_any_size(self):
        far = turn_times((5, 12), 60)
        row = steered(whole(1, 2, 5, 0, 3), far)
        self.holds(row, oracle.mirror(row))
        self.holds(row, row)
        part, other = steered(whole(1, 3), far), steered(whole(5, -8, 5), (1, 9))
        self.holds(oracle.product(part, other), oracle.product(oracle.mirror(part), other, (point_of(far),)))
        self.holds((real(HUGE), I), (oracle.mirror((real(HUGE), I))))


class RowsOfPower(unittest.TestCase):
    def test_of_the_document(self):
        self.assertEqual([rows_of_power(lags_of((TWO, ONE))), rows_of_power(WAVE), rows_of_power((ONE, ONE))], [2, 1, 0])

    def test_nought_and_below(self):
        for lags in ((NIL,), (NIL,) * 8, (real(-1),), (NIL, ONE), (NIL, I), ROOT_TWO, THIRD, FOURTH,
                     lags_sum(WAVE, (real(-1, HUGE),)), lags_sum(EVEN, (real(-1, 10 ** 30),))):
            self.assertEqual(rows_of_power(lags), 0)

    def test_the_same_everywhere(self):
        for lags in ((ONE,), (real(1, HUGE), NIL), (TWO,) + (NIL,) * 7):
            self.assertEqual(rows_of_power(lags), 1)

    def test_zeros_on_the_circle(self):
        for lags in (WAVE, EVEN, BINOMIAL, times(ROOT_TWO, ROOT_TWO), times(THIRD, THIRD), WAVE + (NIL,)):
            self.assertEqual(rows_of_power(lags), 1)
        # t t t t - 2 has a pair that is not real, here twice
        self.assertEqual(rows_of_power(times(FOURTH, FOURTH)), 3)

    def test_by_the_zeros(self):
        # 1 + z / 2 and 1 + 2 z are one pair; 1 - z - z z has two, told by no fraction; 1 + 3 z another one
        one, golden, other, round_one = whole(2, 1), whole(1, -1, -1), whole(1, 3), whole(1, 1, 1)
        for parts, many in [([one], 2), ([golden], 4), ([other], 2), ([one] * 2, 3), ([one] * 3, 4), ([one] * 7, 8),
                            ([golden] * 2, 9), ([golden] * 3, 16), ([one, golden], 8), ([one, one, golden], 12),
                            ([one, other], 4), ([one, other] * 2, 9), ([one] * 3 + [other] * 2 + [golden], 48),
                            ([round_one], 1), ([round_one, one], 2), ([round_one, round_one, one, one, other], 6),
                            ([whole(1, 1)] * 3 + [one] * 4, 5), ([whole(3, (1, 2))], 2), ([whole(1, 0, 2)], 4),
                            ([whole(1, 0, 2)] * 3, 16), ([whole(1, 0, 0, 0, 0, 0, 0, 3)], 128),
                            ([one, whole(3, 1), whole(4, 1), whole(5, 1), whole(6, 1), whole(7, 1), whole(8, 1)], 128)]:
            row = oracle.product(*parts)
            self.assertEqual(rows_of_power(lags_of(row)), many, parts)
            flipped = oracle.product(oracle.mirror(parts[0]), *parts[1:])
            self.assertEqual(rows_of_power(lags_of(flipped)), many, parts)
            if len(row) < 8:
                self.assertEqual(rows_of_power(lags_of((NIL,) + row)), many, parts)
                self.assertEqual(rows_of_power(lags_of(row) + (NIL,)), many, parts)

    def test_zeros_that_are_one_pair(self):
        # 2 + z and 1 + 2 z have one power: the pair comes twice in their product
        self.assertEqual(rows_of_power(lags_of(oracle.product(whole(2, 1), whole(1, 2)))), 3)
        self.assertEqual(rows_of_power(lags_of(oracle.product(whole(2, 1), whole(1, 2), whole(1, -1)))), 3)

    def test_all_but_touching(self):
        for tiny in (10 ** 6, 10 ** 60):
            self.assertEqual(rows_of_power(lags_sum(WAVE, (real(1, tiny),))), 2)
            self.assertEqual(rows_of_power(lags_sum(EVEN, (real(1, tiny),))), 128)
            self.assertEqual(rows_of_power(lags_sum(BINOMIAL, (real(1, tiny),))), 128)

    def test_powers_that_no_row_with_fractions_has(self):
        # 3 + z + 1 / z is the power of rows with roots
        self.assertEqual([rows_of_power((real(3), ONE)), rows_of_power((real(7), NIL, I))], [2, 4])

    def test_turned(self):
        for row in (whole(1, 1), whole(2, 1, 1), whole(1, -1, -1)):
            for turn in ((1, 2), "half", turn_times((2, 7), 40)):
                self.assertEqual(rows_of_power(lags_of(steered(row, turn))), rows_of_power(lags_of(row)))

    def test_not_more_than_they_are(self):
        for lags in LAGS:
            self.assertIn(rows_of_power(lags), [0] + [m for m in range(1, 129)])
