"""Points 22, 23 and 24: rows through points, gain, and the row that hears least."""

import random
import unittest
from fractions import Fraction

import oracle
from helpers import EIGHT, HALF, HUGE, I, LAGS, LESS, NIL, ONE, ROWS, TWO, WAVE, real
from mastrows.errors import NotAbove
from mastrows.makers import binomial_row, even_row, fed, mirrored, steered
from mastrows.patterns import lags_sum, turned_lags
from mastrows.points import back_wave, gain, least_hearing, multipliers, noise_of, row_through
from mastrows.rows import is_row, mean_power, sent
from mastrows.turns import joined_turns, turn_times
from samples import BINOMIAL, EVEN, FACTORS, ROOT_TWO, SPOTS, some_number, some_row, times, whole


def noise(row):
    return sum(a * a + b * b for a, b in [oracle.number(feed) for feed in row])


def waves(size, turn):
    """The back wave: the powers of the conjugate of the turn's point."""
    z = oracle.point(turn)
    out = [(Fraction(1), Fraction(0))]
    for _ in range(size - 1):
        out.append(oracle.times(out[-1], (z[0], -z[1])))
    return tuple(oracle.told(feed) for feed in out)


def total(rows):
    """The sum of rows of one length, each times a complex."""
    size = len(rows[0][1])
    out = [(Fraction(0), Fraction(0))] * size
    for number, row in rows:
        for k, feed in enumerate(row):
            part = oracle.times(oracle.number(number), oracle.number(feed))
            out[k] = out[k][0] + part[0], out[k][1] + part[1]
    return tuple(oracle.told(feed) for feed in out)


class NoiseAndGain(unittest.TestCase):
    def test_of_the_document(self):
        self.assertEqual([noise_of(binomial_row(3)), gain(binomial_row(3), (0, 1)), gain(even_row(3), (0, 1)),
                          gain(even_row(2), "half")], [(6, 1), (8, 3), (3, 1), (0, 1)])

    def test_noise(self):
        for row in ROWS + FACTORS:
            self.assertEqual(noise_of(row), oracle.pair(noise(row)))
            self.assertEqual(noise_of(row), mean_power(row))
            self.assertEqual(noise_of(mirrored(row)), noise_of(row))

    def test_gain(self):
        dice = random.Random(110)
        for row in ROWS[:11] + FACTORS + [some_row(dice) for _ in range(30)]:
            for turn in SPOTS:
                wanted = oracle.power(row, turn) / noise(row)
                self.assertEqual(gain(row, turn), oracle.pair(wanted))
                self.assertLessEqual(wanted, len(row))
                self.assertEqual(gain(fed(row, ((3, 7), (-2, 1))), turn), gain(row, turn))

    def test_the_greatest_gain(self):
        for many in range(1, 9):
            for turn in SPOTS + [turn_times((5, 6), 60)]:
                wave = back_wave(many, turn)
                self.assertEqual(gain(wave, turn), (many, 1))
                self.assertEqual(gain(fed(wave, ((1, 3), (2, 1))), turn), (many, 1))
                if many > 1:
                    less = wave[:-1] + ((wave[-1][0], oracle.pair(oracle.fraction(wave[-1][1]) + Fraction(1, HUGE))),)
                    self.assertLess(oracle.fraction(gain(less, turn)), many)

    def test_back_wave(self):
        self.assertEqual([back_wave(3, (1, 1)), back_wave(1, "half"), back_wave(4, "half")],
                         [(ONE, ((0, 1), (-1, 1)), LESS), (ONE,), (ONE, LESS, ONE, LESS)])
        for many in range(1, 9):
            for turn in SPOTS:
                self.assertEqual(back_wave(many, turn), waves(many, turn))
                self.assertEqual(back_wave(many, turn), steered(even_row(many), turn))
                self.assertEqual(sent(back_wave(many, turn), turn), real(many))


class Through(unittest.TestCase):
    def holds(self, many, points, dice):
        row, shares = row_through(many, points), multipliers(many, points)
        self.assertTrue(is_row(row) and len(row) == many)
        self.assertEqual(len(shares), len(points))
        for turn, number in points:
            self.assertEqual(oracle.told(oracle.sent(row, turn)), number)
        self.assertEqual(total([(share, waves(many, turn)) for share, (turn, _) in zip(shares, points)]), row)
        # any other row through the points: what it differs by sends nothing toward all of the turns
        if len(points) < many:
            off = (ONE,)
            for turn, _ in points:
                z = oracle.point(turn)
                off = oracle.product(off, (oracle.told((-z[0], -z[1])), ONE))
            for _ in range(3):
                free = tuple(some_number(dice) for _ in range(many - len(points)))
                more = oracle.product(off, free)
                other = total([(ONE, row), (ONE, more)])
                for turn, number in points:
                    self.assertEqual(oracle.told(oracle.sent(other, turn)), number)
                self.assertEqual(noise(other), noise(row) + noise(more))

    def test_of_the_document(self):
        self.assertEqual(row_through(2, (((0, 1), ONE),)), (HALF, HALF))
        self.assertEqual(multipliers(2, (((0, 1), ONE), ("half", NIL))), (HALF, NIL))
        self.assertIsNone(row_through(1, (((0, 1), ONE), ("half", NIL))))
        self.assertIsNone(row_through(2, (((0, 1), NIL),)))

    def test_one_point(self):
        dice = random.Random(111)
        for many in range(1, 9):
            for turn in SPOTS:
                for number in (ONE, I, ((2, 3), (-1, 5))):
                    points = ((turn, number),)
                    self.holds(many, points, dice)
                    share = oracle.told(tuple(part / many for part in oracle.number(number)))
                    self.assertEqual(multipliers(many, points), (share,))
                    self.assertEqual(row_through(many, points), fed(back_wave(many, turn), share))

    def test_as_many_points_as_masts(self):
        dice = random.Random(112)
        for many in range(1, 9):
            for _ in range(4):
                turns = dice.sample(SPOTS, many)
                numbers = [some_number(dice) for _ in turns]
                if any(number != NIL for number in numbers):
                    self.holds(many, tuple(zip(turns, numbers)), dice)

    def test_any(self):
        dice = random.Random(113)
        for _ in range(80):
            many = dice.randint(1, 8)
            turns = dice.sample(SPOTS, dice.randint(1, many))
            numbers = [dice.choice([NIL, ONE, some_number(dice)]) for _ in turns]
            points = tuple(zip(turns, numbers))
            if all(number == NIL for number in numbers):
                self.assertIsNone(row_through(many, points))
                self.assertIsNone(multipliers(many, points))
            else:
                self.holds(many, points, dice)

    def test_points_of_a_row(self):
        # a row of as many masts as points is the only one through its own points
        dice = random.Random(114)
        for _ in range(30):
            row = some_row(dice)
            turns = dice.sample(SPOTS, len(row))
            self.assertEqual(row_through(len(row), tuple((turn, sent(row, turn)) for turn in turns)), row)

    def test_the_order_of_the_points(self):
        points = (((0, 1), ONE), ((1, 2), I), ("half", TWO), ((-3, 1), NIL))
        for many in (4, 6, 8):
            self.assertEqual(row_through(many, points), row_through(many, points[::-1]))
            self.assertEqual(multipliers(many, points), multipliers(many, points[::-1])[::-1])

    def test_none(self):
        for many in range(1, 9):
            for size in range(1, 9):
                points, noughts = EIGHT[:size], tuple((turn, NIL) for turn, _ in EIGHT[:size])
                self.assertIsNone(row_through(many, noughts))
                self.assertIsNone(multipliers(many, noughts))
                last = noughts[:-1] + ((EIGHT[size - 1][0], I),)
                for told in (points, last):
                    self.assertIs(row_through(many, told) is None, size > many)
                    self.assertIs(multipliers(many, told) is None, size > many)

    def test_any_size(self):
        dice = random.Random(115)
        far = turn_times((4, 5), 40)
        points = ((far, ONE), (turn_times(far, 2), I), ((1, HUGE), ((HUGE, 1), (1, HUGE))))
        for many, shown in ((2, points[:2]), (3, points), (8, points[:2])):
            self.holds(many, shown, dice)
        row = row_through(8, tuple((turn_times(far, k), real(k)) for k in range(8)))
        for k in range(8):
            self.assertEqual(sent(row, turn_times(far, k)), real(k))
        near = ((0, 1), (1, 10 ** 100), (2, 10 ** 100 + 1))
        self.holds(5, tuple((turn, real(k)) for k, turn in enumerate(near)), dice)


def heard(lags, row):
    """The sum of x_j * conj(x_k) * c_(j - k)."""
    plain = [oracle.number(feed) for feed in row]
    out = Fraction(0)
    for j, one in enumerate(plain):
        for k, other in enumerate(plain):
            part = oracle.times(oracle.times(one, (other[0], -other[1])), lag(lags, j - k))
            out += part[0]
    return out


def lag(lags, j):
    real_part, side = oracle.number(lags[abs(j)])
    return real_part, side if j >= 0 else -side


def is_above(lags):
    """Whether all corners of the table have determinants above 0: by rows of Python's fractions."""
    size = len(lags)
    lines = [[lag(lags, k - j) for k in range(size)] for j in range(size)]
    for at in range(size):
        pivot = lines[at][at]
        if pivot[1] != 0 or pivot[0] <= 0:
            return False
        for j in range(at + 1, size):
            factor = tuple(-part / pivot[0] for part in lines[j][at])
            parts = [oracle.times(factor, other) for other in lines[at]]
            lines[j] = [(a + c, b + d) for (a, b), (c, d) in zip(lines[j], parts)]
    return True


class LeastHearing(unittest.TestCase):
    def holds(self, lags, turn, dice):
        row = least_hearing(lags, turn)
        self.assertTrue(is_row(row) and len(row) == len(lags))
        self.assertEqual(sent(row, turn), ONE)
        least, plain = heard(lags, row), [oracle.number(feed) for feed in row]
        self.assertGreater(least, 0)
        wave = [oracle.number(feed) for feed in waves(len(lags), turn)]
        for k in range(len(lags)):
            parts = [oracle.times(one, lag(lags, j - k)) for j, one in enumerate(plain)]
            self.assertEqual((sum(a for a, _ in parts), sum(b for _, b in parts)),
                             (least * wave[k][0], least * wave[k][1]))
        # all other rows that send 1 there hear more
        if len(lags) > 1:
            z = oracle.point(turn)
            for _ in range(3):
                free = tuple(some_number(dice) for _ in range(len(lags) - 1))
                more = oracle.product((oracle.told((-z[0], -z[1])), ONE), free)
                other = total([(ONE, row), (ONE, more)])
                self.assertEqual(heard(lags, other), least + heard(lags, more))
                if any(feed != NIL for feed in free):
                    self.assertGreater(heard(lags, other), least)

    def test_of_the_document(self):
        self.assertEqual([least_hearing(WAVE, (0, 1)), least_hearing(WAVE, "half")], [(HALF, HALF), (HALF, real(-1, 2))])

    def test_one_lag(self):
        for turn in SPOTS:
            self.assertEqual([least_hearing((ONE,), turn), least_hearing((real(5, 7),), turn)], [(ONE,), (ONE,)])

    def test_like_noise(self):
        # where masts hear nothing of one another what is heard is noise
        for many in range(1, 9):
            for turn in SPOTS:
                self.assertEqual(least_hearing((real(3),) + (NIL,) * (many - 1), turn), row_through(many, ((turn, ONE),)))

    def test_any(self):
        dice, met = random.Random(116), set()
        for _ in range(150):
            size = dice.randint(1, 8)
            numbers = [some_number(dice) for _ in range(size - 1)]
            lags = (real(dice.choice([1, 3, 9, 20])),) + tuple(numbers)
            turn = dice.choice(SPOTS)
            met.add(is_above(lags))
            if is_above(lags):
                self.holds(lags, turn, dice)
            else:
                with self.assertRaises(NotAbove):
                    least_hearing(lags, turn)
        self.assertEqual(met, {True, False})

    def test_just_not_above(self):
        dice = random.Random(117)
        # waves from one direction, from two, from seven: for eight masts these are too few
        one, two = (ONE,) * 8, lags_sum((ONE,) * 8, turned_lags((ONE,) * 8, (2, 3)))
        seven = tuple(real(7 if k == 0 else -1) for k in range(8))
        for lags, rank in [(one, 1), (two, 2), (seven, 7)]:
            for size in range(1, 9):
                for turn in ((0, 1), "half", (2, 3), (-1, 4)):
                    if size > rank:
                        with self.assertRaises(NotAbove):
                            least_hearing(lags[:size], turn)
                        with self.assertRaises(NotAbove):
                            least_hearing(lags_sum(lags[:size], (real(-1, 10 ** 60),)), turn)
                        self.assertEqual(sent(least_hearing(lags_sum(lags[:size], (real(1, 10 ** 60),)), turn), turn), ONE)
                    else:
                        self.holds(lags[:size], turn, dice)

    def test_not_above(self):
        for lags in ((NIL,), (NIL, NIL), (real(-1),), (NIL, ONE), (ONE, TWO), (ONE, ONE), (ONE, I), (ONE, NIL, real(-3)),
                     (real(-1),) * 8, ROOT_TWO, (real(2), ONE, real(-2))):
            for turn in ((0, 1), "half", (1, 1)):
                with self.assertRaises(NotAbove):
                    least_hearing(lags, turn)

    def test_patterns_above_nought(self):
        dice = random.Random(118)
        for lags in (EVEN, BINOMIAL, WAVE, times(ROOT_TWO, ROOT_TWO), LAGS[5][:1] + (HALF,)):
            for turn in SPOTS[:4]:
                self.holds(lags, turn, dice)

    def test_any_size(self):
        dice = random.Random(119)
        far = turn_times((9, 10), 60)
        lags = turned_lags((real(5), ONE, I, HALF), far)
        self.holds(lags, far, dice)
        plain = least_hearing((real(5), ONE, I, HALF), (2, 7))
        wave = steered(plain, turn_times(far, -1))
        self.assertEqual(sent(wave, joined_turns((2, 7), turn_times(far, -1))), ONE)
        self.assertEqual(heard(turned_lags((real(5), ONE, I, HALF), far), wave), heard((real(5), ONE, I, HALF), plain))
