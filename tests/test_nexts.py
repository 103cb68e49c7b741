"""Points 29 and 30: the next reading, mirror numbers, guess rows."""

import random
import unittest
from fractions import Fraction

import oracle
from helpers import HALF, HUGE, I, NIL, ONE, TWO, WAVE, real
from mastrows.complexes import complex_product, complex_sum
from mastrows.errors import NotAbove
from mastrows.loops import zeros_split
from mastrows.nexts import guess_error, guess_row, lags_from, mirrors_of, next_disc
from mastrows.patterns import is_lags, lags_sum, turned_lags
from mastrows.points import least_hearing
from mastrows.rows import is_row
from mastrows.tables import comes_of_waves, heard, silent_row, wave_lags, wave_rank
from mastrows.turns import point_of, turn_times
from samples import SPOTS, some_number, some_row
from test_tables import SKEW, THIRDS, some_lot

UNITS = [point_of(turn) for turn in SPOTS]
# sizes below 1: 0, ordinary ones, and one that is just below
MIRRORS = [NIL, HALF, real(-1, 3), ((0, 1), (4, 5)), ((-1, 2), (1, 2)), ((3, 5), (-3, 5)), real(HUGE - 1, HUGE),
           ((-3 * HUGE + 1, 5 * HUGE), (4, 5))]


def moved(center, radius, unit, factor):
    """The center and the radius times a unit and a factor."""
    return complex_sum(center, complex_product(unit, (oracle.pair(oracle.fraction(radius) * factor), (0, 1))))


def some_mirrors(dice, most=7):
    return tuple(dice.choice(MIRRORS[:6]) for _ in range(dice.randint(0, most)))


def some_above(dice):
    return lags_from((dice.randint(1, 9), 1), some_mirrors(dice))


def less_size(number):
    """1 less the size square."""
    a, b = oracle.number(number)
    return 1 - a * a - b * b


class NextDisc(unittest.TestCase):
    def test_of_the_document(self):
        mix = lags_sum(wave_lags((2, 1), (1, 1), 3), wave_lags((1, 1), (0, 1), 3))
        self.assertEqual([next_disc(WAVE), next_disc(mix), next_disc((ONE,))],
                         [(HALF, (3, 2)), (((1, 1), (-2, 1)), (0, 1)), (NIL, (1, 1))])
        with self.assertRaises(NotAbove):
            next_disc((ONE, TWO))

    def test_one_lag(self):
        self.assertEqual([next_disc((real(7, 3),)), next_disc((NIL,)), next_disc((real(1, HUGE),))],
                         [(NIL, (7, 3)), (NIL, (0, 1)), (NIL, (1, HUGE))])
        with self.assertRaises(NotAbove):
            next_disc((real(-1),))

    def test_the_edge_of_the_disc(self):
        dice = random.Random(150)
        for _ in range(60):
            lags = some_above(dice)
            center, radius = next_disc(lags)
            self.assertEqual(oracle.table_rank(lags + (center,)), len(lags) + 1)
            for unit in dice.sample(UNITS, 3):
                on, inside = moved(center, radius, unit, 1), moved(center, radius, unit, 1 - Fraction(1, 10 ** 40))
                self.assertEqual(oracle.table_rank(lags + (on,)), len(lags))
                self.assertEqual(oracle.table_rank(lags + (inside,)), len(lags) + 1)
                outside = moved(center, radius, unit, 1 + Fraction(1, 10 ** 40))
                self.assertIsNone(oracle.table_rank(lags + (outside,)))
                if len(lags) < 8:
                    self.assertIs(comes_of_waves(lags + (on,)), True)
                    self.assertIs(comes_of_waves(lags + (outside,)), False)

    def test_of_few_waves(self):
        # the waves tell all that comes behind
        dice = random.Random(151)
        for _ in range(80):
            lot, many = some_lot(dice, 6), dice.randint(1, 8)
            lags = oracle.waves(lot, many)
            center, radius = next_disc(lags)
            self.assertIs(radius == (0, 1), len(lot) < many)
            self.assertIs(radius == (0, 1), wave_rank(lags) <= many - 1)
            if len(lot) < many:
                self.assertEqual(center, oracle.waves(lot, many + 1)[-1])
        for lags in (THIRDS, SKEW):
            for many in range(3, 8):
                self.assertEqual(next_disc(lags[:many]), (lags[many], (0, 1)))
        for many in range(1, 9):
            self.assertEqual(next_disc((NIL,) * many), (NIL, (0, 1)))

    def test_barred(self):
        for lags in [(ONE, ONE, I), (NIL, ONE), (ONE, real(HUGE + 1, HUGE)), (real(-1),) * 8, (NIL,) * 7 + (ONE,),
                     (ONE,) * 7 + (real(HUGE - 1, HUGE),)]:
            with self.assertRaises(NotAbove) as caught:
                next_disc(lags)
            self.assertEqual(vars(caught.exception), {})

    def test_the_center_and_the_silent_row(self):
        # what hears nothing goes on to hear nothing
        dice = random.Random(152)
        for _ in range(40):
            lot = some_lot(dice, 5)
            lags = oracle.waves(lot, len(lot) + dice.randint(1, 2))
            row, center = silent_row(lags), next_disc(lags)[0]
            total, longer = NIL, lags + (center,)
            for feed, lag in zip(row, longer[len(longer) - len(row):]):
                total = complex_sum(total, complex_product(feed, lag))
            self.assertEqual(total, NIL)


class Mirrors(unittest.TestCase):
    def test_of_the_document(self):
        self.assertEqual(mirrors_of(WAVE), (HALF,))
        self.assertEqual(lags_from((2, 1), (HALF,)), WAVE)

    def test_none(self):
        for amount in ((1, 1), (5, 3), (HUGE, 1), (1, HUGE)):
            self.assertEqual(lags_from(amount, ()), ((amount, (0, 1)),))
            self.assertEqual(mirrors_of(((amount, (0, 1)),)), ())

    def test_there_and_back(self):
        dice = random.Random(153)
        for _ in range(120):
            mirrors = some_mirrors(dice)
            amount = dice.choice([(1, 1), (7, 3), (1, 1000)])
            lags = lags_from(amount, mirrors)
            self.assertTrue(is_lags(lags) and len(lags) == len(mirrors) + 1)
            self.assertEqual(lags[0], (amount, (0, 1)))
            self.assertEqual(mirrors_of(lags), mirrors)
            self.assertEqual(oracle.table_rank(lags), len(lags))

    def test_sizes_just_below_1(self):
        dice = random.Random(163)
        for many in (1, 2, 3, 4):
            mirrors = tuple(dice.choice(MIRRORS[4:]) for _ in range(many - 1)) + (MIRRORS[-2],)
            self.assertEqual(mirrors_of(lags_from((7, 3), mirrors)), mirrors)
        self.assertEqual(mirrors_of(lags_from((HUGE, 1), (MIRRORS[-1],))), (MIRRORS[-1],))

    def test_and_back_and_there(self):
        dice, met = random.Random(154), 0
        for _ in range(200):
            lags = (real(dice.choice([3, 9, 20])),) + tuple(some_number(dice) for _ in range(dice.randint(0, 7)))
            if oracle.table_rank(lags) == len(lags):
                mirrors = mirrors_of(lags)
                self.assertTrue(all(less_size(number) > 0 for number in mirrors))
                self.assertEqual(lags_from(lags[0][0], mirrors), lags)
                met += 1
        self.assertGreater(met, 50)

    def test_by_the_discs(self):
        dice = random.Random(155)
        for _ in range(60):
            mirrors = some_mirrors(dice)
            lags = lags_from((4, 3), mirrors)
            for k, number in enumerate(mirrors):
                center, radius = next_disc(lags[:k + 1])
                self.assertEqual(moved(center, radius, number, 1), lags[k + 1])

    def test_the_radius(self):
        dice = random.Random(156)
        for _ in range(60):
            mirrors, wanted = some_mirrors(dice), Fraction(5, 2)
            for number in mirrors:
                wanted *= less_size(number)
            lags = lags_from((5, 2), mirrors)
            self.assertEqual(next_disc(lags)[1], oracle.pair(wanted))
            self.assertEqual(guess_error(lags), oracle.pair(wanted))

    def test_seven_noughts(self):
        self.assertEqual(lags_from((3, 1), (NIL,) * 7), (real(3),) + (NIL,) * 7)
        self.assertEqual(mirrors_of((real(3),) + (NIL,) * 7), (NIL,) * 7)

    def test_seven_just_below_1(self):
        near = real(10 ** 400 - 1, 10 ** 400)
        lags = lags_from((1, 1), (near,) * 7)
        self.assertEqual(mirrors_of(lags), (near,) * 7)
        self.assertEqual(wave_rank(lags), 8)
        self.assertEqual(guess_error(lags), oracle.pair(Fraction(2 * 10 ** 400 - 1, 10 ** 800) ** 7))

    def test_lags_of_powers(self):
        dice = random.Random(157)
        for _ in range(40):
            lags = oracle.lags(some_row(dice))
            self.assertEqual(lags_from(lags[0][0], mirrors_of(lags)), lags)


class GuessRow(unittest.TestCase):
    def holds(self, lags):
        row, error = guess_row(lags), guess_error(lags)
        self.assertTrue(is_row(row) and len(row) == len(lags) and row[-1] == ONE)
        self.assertGreater(error[0], 0)
        plain = [oracle.number(feed) for feed in row]
        for j in range(len(lags)):
            parts = [oracle.times(oracle.lag(lags, k - j), feed) for k, feed in enumerate(plain)]
            wanted = (oracle.fraction(error), 0) if j == len(lags) - 1 else (0, 0)
            self.assertEqual((sum(a for a, _ in parts), sum(b for _, b in parts)), wanted)
        self.assertEqual(heard(lags, row), error)
        center, radius = next_disc(lags)
        self.assertEqual(radius, error)
        guess = NIL
        for feed, lag in zip(row, lags[1:]):
            guess = complex_sum(guess, complex_product(feed, lag))
        self.assertEqual(complex_product(guess, real(-1)), center)
        if len(lags) > 1:
            self.assertEqual(complex_product(row[0], real(-1)), mirrors_of(lags)[-1])
        self.assertEqual(zeros_split(row), (len(lags) - 1, 0, 0))
        self.assertTrue(oracle.stays_inside(row))
        return row

    def test_of_the_document(self):
        self.assertEqual([guess_row(WAVE), guess_error(WAVE)], [(real(-1, 2), ONE), (3, 2)])

    def test_one_lag(self):
        for number in (ONE, real(5, 3), real(1, HUGE)):
            self.assertEqual([guess_row((number,)), guess_error((number,))], [(ONE,), number[0]])

    def test_any(self):
        dice = random.Random(158)
        for _ in range(100):
            lags = some_above(dice)
            row = self.holds(lags)
            # any other row with the last feed 1 hears more: by what it differs by
            if len(lags) > 1:
                off = tuple(some_number(dice) for _ in range(len(lags) - 1))
                other = tuple(complex_sum(feed, more) for feed, more in zip(row, off)) + (ONE,)
                if any(number != NIL for number in off):
                    self.assertEqual(oracle.heard(lags, other), oracle.fraction(guess_error(lags)) +
                                     oracle.heard(lags, off))
                    self.assertGreater(oracle.heard(lags, other), oracle.fraction(guess_error(lags)))

    def test_all_rows_with_zeros_inside_guess(self):
        # each row with the last feed 1 and all zeros inside is the guess row of some lags: by its mirror numbers
        dice = random.Random(159)
        for _ in range(60):
            row = (ONE,)
            for _ in range(dice.randint(0, 7)):
                zero = dice.choice([HALF, real(-1, 3), ((1, 3), (1, 2)), ((0, 1), (-3, 4)), NIL, ((1, 2), (1, 4))])
                row = oracle.product(row, (complex_product(zero, real(-1)), ONE))
            mirrors = self.mirrors_by_the_row(row)
            self.assertEqual(guess_row(lags_from((1, 1), mirrors)), row)

    def mirrors_by_the_row(self, row):
        plain, out = [oracle.number(feed) for feed in row], []
        while len(plain) > 1:
            m = -plain[0][0], -plain[0][1]
            out.insert(0, oracle.told(m))
            size = 1 - m[0] ** 2 - m[1] ** 2
            mirrored = [(a, -b) for a, b in plain[::-1]]
            parts = [oracle.times(m, feed) for feed in mirrored]
            plain = [((a + c) / size, (b + d) / size) for (a, b), (c, d) in zip(plain, parts)][1:]
        return tuple(out)

    def test_determinants(self):
        # the error is the determinant of the table over that of one mast fewer
        dice = random.Random(160)
        for _ in range(40):
            lags = some_above(dice)
            above = oracle.determinant(oracle.table(lags))[0]
            below = oracle.determinant(oracle.table(lags[:-1]))[0]
            self.assertEqual(oracle.pair(above / below), guess_error(lags))

    def test_lags_that_are_not_above(self):
        for lags in [(NIL,), (NIL, NIL), (ONE, ONE), (ONE, I), THIRDS, SKEW, (ONE,) * 8, (ONE, TWO), (real(-1),),
                     wave_lags((3, 1), "half", 4), (TWO, ONE, real(-1)), (NIL, ONE), (ONE,) * 7 + (NIL,)]:
            for function in (mirrors_of, guess_row, guess_error):
                with self.assertRaises(NotAbove) as caught:
                    function(lags)
                self.assertEqual(vars(caught.exception), {})

    def test_just_above_and_just_not(self):
        for lags in (THIRDS[:4], SKEW[:5], (ONE,) * 8, wave_lags((3, 1), (2, 7), 6), (NIL, NIL)):
            self.holds(lags_sum(lags, (real(1, 10 ** 50),)))
            with self.assertRaises(NotAbove):
                guess_row(lags_sum(lags, (real(-1, 10 ** 50),)))

    def test_turned(self):
        dice = random.Random(161)
        for _ in range(30):
            lags, turn = some_above(dice), dice.choice(SPOTS + [turn_times((2, 3), 40)])
            self.assertEqual(guess_error(turned_lags(lags, turn)), guess_error(lags))
            self.holds(turned_lags(lags, turn))

    def test_against_the_least_hearing(self):
        # the guess row is least of all with the last feed 1: also of those made by sending 1 toward a turn
        dice = random.Random(162)
        for _ in range(30):
            lags = some_above(dice)
            row = least_hearing(lags, dice.choice(SPOTS))
            a, b = oracle.number(row[-1])
            self.assertGreaterEqual(oracle.heard(lags, row), oracle.fraction(guess_error(lags)) * (a * a + b * b))
