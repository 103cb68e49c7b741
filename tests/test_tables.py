"""Points 27 and 28: tables that were heard, waves and ranks, and the most from a direction."""

import random
import unittest
from fractions import Fraction

import oracle
from helpers import HUGE, I, LAGS, NIL, ONE, TWO, WAVE, real
from mastrows.errors import NotAbove, TooManyMasts
from mastrows.makers import even_row, joined_rows, steered
from mastrows.patterns import is_lags, lags_sum, turned_lags
from mastrows.points import least_hearing
from mastrows.rows import is_row, lags_of, nulls_on, power_at, sent
from mastrows.tables import (barring_row, comes_of_waves, heard, most_from, silent_row, wave_lags, wave_rank,
                             waves_on)
from mastrows.turns import is_on, joined_turns, turn_times
from samples import ARCS, SPOTS, some_number, some_row

# the waves of these come from the nulls of (1, 1, 1), and from where the cosine is 1 / 3: told by no fractions
THIRDS = tuple(real(2 if k % 3 == 0 else -1) for k in range(8))
COSINES = [Fraction(1), Fraction(1, 3)]
for _ in range(6):
    COSINES.append(Fraction(2, 3) * COSINES[-1] - COSINES[-2])
SKEW = tuple(oracle.told((2 * cosine, Fraction(0))) for cosine in COSINES)


def some_lot(dice, many=8):
    """Powers and turns of some waves."""
    turns = dice.sample(SPOTS + [(3, 7), (-9, 2)], dice.randint(0, min(many, 10)))
    return [(Fraction(dice.randint(1, 9), dice.choice([1, 2, 7])), turn) for turn in turns]


def bent(lags, at, size, dice):
    """The lags with one of them moved by about 1 / size."""
    plain = oracle.number(lags[at])
    step = Fraction(dice.choice([1, -1]), size), Fraction(dice.choice([1, -1, 0]) if at else 0, size)
    return lags[:at] + (oracle.told((plain[0] + step[0], plain[1] + step[1])),) + lags[at + 1:]


class Heard(unittest.TestCase):
    def test_any(self):
        dice = random.Random(130)
        for _ in range(200):
            lags = (real(dice.randint(-3, 9)),) + tuple(some_number(dice) for _ in range(dice.randint(0, 7)))
            row = some_row(dice, len(lags))
            self.assertEqual(heard(lags, row), oracle.pair(oracle.heard(lags, row)))

    def test_of_a_wave(self):
        dice = random.Random(131)
        for _ in range(100):
            many, turn = dice.randint(1, 8), dice.choice(SPOTS)
            row = some_row(dice, many)
            wave = wave_lags((7, 3), turn, many)
            self.assertEqual(heard(wave, row), oracle.pair(Fraction(7, 3) * oracle.power(row, turn)))

    def test_like_the_pattern(self):
        # r_0 c_0 + 2 Re sum r_j c_j is the mean of a product of patterns: the first lag of it
        dice = random.Random(132)
        for _ in range(60):
            row = some_row(dice)
            lags = (real(dice.randint(-3, 9)),) + tuple(some_number(dice) for _ in range(7))
            product = oracle.convolved(tuple((a, (-b[0], b[1])) for a, b in lags), lags_of(row))
            self.assertEqual(heard(lags, row), product[0][0])

    def test_masts(self):
        for size in range(1, 9):
            for many in range(1, 9):
                lags, row = (real(3),) + (ONE,) * (size - 1), even_row(many)
                if many > size:
                    with self.assertRaises(TooManyMasts) as caught:
                        heard(lags, row)
                    self.assertEqual(vars(caught.exception), {})
                else:
                    self.assertEqual(heard(lags, row), (2 * many + many * many, 1))
        with self.assertRaises(TooManyMasts):
            heard((ONE,), (ONE, NIL))
        self.assertEqual(heard((real(-3),), (((1, 2), (3, 1)),)), (-111, 4))


class Waves(unittest.TestCase):
    def test_wave_lags(self):
        for many in range(1, 9):
            for turn in SPOTS:
                for power in ((1, 1), (5, 3), (HUGE, 1), (1, HUGE)):
                    lags = wave_lags(power, turn, many)
                    self.assertTrue(is_lags(lags))
                    self.assertEqual(lags, oracle.wave(oracle.fraction(power), turn, many))
        self.assertEqual(wave_lags((2, 1), (1, 1), 3), (TWO, ((0, 1), (2, 1)), real(-2)))

    def test_lots_of_waves(self):
        dice = random.Random(133)
        for _ in range(120):
            lot, many = some_lot(dice), dice.randint(1, 8)
            lags = oracle.waves(lot, many)
            rank = min(len(lot), many)
            self.assertIs(comes_of_waves(lags), True)
            self.assertEqual(wave_rank(lags), rank)
            self.assertEqual(oracle.table_rank(lags), rank)
            self.assertIsNone(barring_row(lags))
            if rank == many:
                self.assertIsNone(silent_row(lags))
                self.assertIsNone(waves_on(lags, "all"))
                continue
            row = silent_row(lags)
            self.assertTrue(is_row(row) and len(row) == rank + 1 and row[-1] == ONE)
            self.assertEqual(heard(lags, row), (0, 1))
            self.assertEqual(nulls_on(row, "all"), rank)
            for power, turn in lot:
                self.assertEqual(sent(row, turn), NIL)
                self.assertEqual(most_from(lags, turn), oracle.pair(power))
            for turn in SPOTS + [(8, 9)]:
                if turn not in [place for _, place in lot]:
                    self.assertEqual(most_from(lags, turn), (0, 1))
            for arc in ["all"] + dice.sample(ARCS, 12):
                self.assertEqual(waves_on(lags, arc), len([turn for _, turn in lot if is_on(arc, turn)]))

    def test_waves_at_the_ends_and_at_half(self):
        lot = [(1, "half"), (2, (0, 1)), (3, (1, 1))]
        lags = oracle.waves(lot, 4)
        for arc, many in [("all", 3), (((0, 1), (1, 1)), 2), (((1, 1), (0, 1)), 3), (("half", (0, 1)), 2),
                          (((2, 1), "half"), 1), (((2, 1), (-1, 1)), 1), (((1, 3), (2, 3)), 0), (((0, 1), "half"), 3),
                          (((-1, 1), (-1, 2)), 0)]:
            self.assertEqual(waves_on(lags, arc), many)

    def test_waves_that_no_fraction_tells(self):
        for lags in (THIRDS, SKEW):
            for many in range(3, 9):
                self.assertEqual(wave_rank(lags[:many]), 2)
                row = silent_row(lags[:many])
                self.assertEqual(len(row), 3)
                self.assertEqual([waves_on(lags[:many], arc) for arc in
                                  ("all", ((0, 1), "half"), ("half", (0, 1)), ((1, 2), (5, 1)), ((1, 10), (1, 5)))],
                                 [2, 1, 1, 1, 0])
                for turn in SPOTS:
                    self.assertEqual(most_from(lags[:many], turn), (0, 1))
            both = lags_sum(lags, wave_lags((4, 3), (1, 2), 8))
            for many in range(4, 9):
                self.assertEqual(wave_rank(both[:many]), 3)
                self.assertEqual(most_from(both[:many], (1, 2)), (4, 3))
                self.assertEqual(most_from(both[:many], (2, 1)), (0, 1))
                self.assertEqual([waves_on(both[:many], arc) for arc in
                                  ("all", ((0, 1), "half"), ((0, 1), (1, 2)), ((0, 1), (1, 3)))], [3, 2, 1, 0])
        self.assertEqual(silent_row(THIRDS), (ONE, ONE, ONE))
        self.assertEqual(silent_row(SKEW), (ONE, real(-2, 3), ONE))

    def test_noughts_alone(self):
        for many in range(1, 9):
            lags = (NIL,) * many
            self.assertEqual([comes_of_waves(lags), wave_rank(lags), silent_row(lags), barring_row(lags)],
                             [True, 0, (ONE,), None])
            for arc in ARCS[:9]:
                self.assertEqual(waves_on(lags, arc), 0)
            for turn in SPOTS:
                self.assertEqual(most_from(lags, turn), (0, 1))

    def test_one_lag(self):
        self.assertEqual([wave_rank((real(5, 3),)), silent_row((ONE,)), waves_on((ONE,), "all")], [1, None, None])
        for turn in SPOTS:
            self.assertEqual(most_from((real(5, 3),), turn), (5, 3))
        self.assertEqual([wave_rank((real(-1),)), comes_of_waves((real(-1),))], [None, False])


class Barred(unittest.TestCase):
    def barred(self, lags):
        self.assertIs(comes_of_waves(lags), False)
        row = barring_row(lags)
        self.assertTrue(is_row(row) and len(row) <= len(lags))
        self.assertLess(oracle.heard(lags, row), 0)
        self.assertLess(heard(lags, row)[0], 0)
        for answer in (wave_rank(lags), silent_row(lags), waves_on(lags, "all"), most_from(lags, (1, 2)),
                       waves_on(lags, ((0, 1), "half")), most_from(lags, "half")):
            self.assertIsNone(answer)

    def test_by_hand(self):
        for lags in [(real(-1),), (real(-1), NIL), (NIL, ONE), (NIL, NIL, I), (NIL, NIL, NIL, NIL, NIL, NIL, NIL, ONE),
                     (ONE, TWO), (ONE, ((1, 1), (1, 1000))), (ONE, NIL, real(-3)), (ONE, ONE, I), (ONE, I, I),
                     (ONE, I, real(-1), ONE), (real(-1, HUGE),) + (NIL,) * 7, (TWO, ONE, real(-3, 2)),
                     (NIL,) * 7 + (real(1, HUGE),), (ONE,) * 7 + (((1, 1), (1, HUGE)),),
                     (ONE,) * 7 + (real(HUGE - 1, HUGE),)]:
            self.barred(lags)

    def test_bent_by_very_little(self):
        # waves from fewer directions than lags make up a table with nothing to spare
        dice = random.Random(134)
        for _ in range(100):
            lot, many = some_lot(dice, 5), dice.randint(2, 8)
            lags = oracle.waves(lot, many)
            rank = min(len(lot), many)
            for size in (1, 1000, 10 ** 60):
                at = dice.randrange(many)
                moved = bent(lags, at, size, dice)
                wanted = oracle.table_rank(moved)
                if wanted is None:
                    self.barred(moved)
                else:
                    self.assertEqual(wave_rank(moved), wanted)
                if rank < many and at > rank:
                    self.assertIsNone(wanted)

    def test_any(self):
        dice, met = random.Random(135), set()
        for _ in range(300):
            lags = (real(dice.choice([0, 1, 2, 3, 6, 12])),) + tuple(
                dice.choice([NIL, ONE, I, some_number(dice)]) for _ in range(dice.randint(0, 7)))
            rank = oracle.table_rank(lags)
            met.add(rank)
            self.assertEqual(wave_rank(lags), rank)
            self.assertIs(comes_of_waves(lags), rank is not None)
            if rank is None:
                self.barred(lags)
            else:
                self.assertIsNone(barring_row(lags))
        self.assertGreater(len(met), 5)

    def test_lags_above_nought_as_patterns(self):
        # a power has lags that come of waves: its spectrum; rank and all of any number of masts
        dice = random.Random(136)
        for _ in range(60):
            lags = lags_of(some_row(dice))
            self.assertIs(comes_of_waves(lags), True)
            self.assertEqual(wave_rank(lags), len(lags))
        for lags in LAGS:
            self.assertEqual(wave_rank(lags), oracle.table_rank(lags))


class Most(unittest.TestCase):
    def test_above_by_hand(self):
        self.assertEqual([most_from(WAVE, (0, 1)), most_from(WAVE, "half")], [(3, 2), (1, 2)])

    def test_no_more_and_no_less(self):
        # less the most from there the lags still come of waves, less ever so little more they do not
        dice = random.Random(137)
        for _ in range(80):
            lot, many = some_lot(dice), dice.randint(1, 8)
            lags = oracle.waves(lot, many)
            for turn in dice.sample(SPOTS, 3):
                most = oracle.fraction(most_from(lags, turn))
                rest = oracle.summed(lags, oracle.wave(most, turn, many), -1)
                rank = oracle.table_rank(rest)
                self.assertIsNotNone(rank)
                self.assertEqual(rank, wave_rank(lags) - (1 if most > 0 else 0))
                more = oracle.summed(rest, oracle.wave(Fraction(1, 10 ** 50), turn, many), -1)
                self.assertIsNone(oracle.table_rank(more))

    def test_the_least_hearing(self):
        dice = random.Random(138)
        for _ in range(80):
            lot, many = some_lot(dice), dice.randint(1, 8)
            lags, turn = oracle.waves(lot, many), dice.choice(SPOTS)
            if oracle.table_rank(lags) == many:
                row = least_hearing(lags, turn)
                self.assertEqual(sent(row, turn), ONE)
                self.assertEqual(heard(lags, row), most_from(lags, turn))
            else:
                with self.assertRaises(NotAbove):
                    least_hearing(lags, turn)

    def test_no_row_hears_less(self):
        dice = random.Random(139)
        for _ in range(80):
            lot, many = some_lot(dice), dice.randint(1, 8)
            lags, turn = oracle.waves(lot, many), dice.choice(SPOTS)
            row = some_row(dice, many)
            self.assertGreaterEqual(oracle.heard(lags, row),
                                    oracle.fraction(most_from(lags, turn)) * oracle.power(row, turn))

    def test_it_is_met_by_a_row(self):
        # if the rank is small, a row that sends nothing toward the other waves hears just this one
        lot = [(Fraction(3, 2), (1, 3)), (Fraction(5), "half"), (Fraction(1, 7), (-2, 1))]
        for many in range(4, 9):
            lags = oracle.waves(lot, many)
            for k, (power, turn) in enumerate(lot):
                others = [place for j, (_, place) in enumerate(lot) if j != k]
                row = (ONE,)
                for place in others:
                    z = oracle.point(place)
                    row = joined_rows(row, (oracle.told((-z[0], -z[1])), ONE))
                worth = oracle.heard(lags, row) / oracle.power(row, turn)
                self.assertEqual(most_from(lags, turn), oracle.pair(worth))
                self.assertEqual(worth, power)


class Together(unittest.TestCase):
    def test_turned(self):
        dice = random.Random(140)
        for _ in range(40):
            lot, many, turn = some_lot(dice, 5), dice.randint(1, 8), dice.choice(SPOTS)
            # lags turned back have waves joined with the turn's back
            lags = oracle.waves(lot, many)
            other = turned_lags(lags, turn)
            back = turn_times(turn, -1)
            self.assertEqual(other, oracle.waves([(power, joined_turns(place, back)) for power, place in lot], many))
            self.assertEqual(wave_rank(other), wave_rank(lags))
            for place in SPOTS[:4]:
                self.assertEqual(most_from(other, joined_turns(place, back)), most_from(lags, place))

    def test_any_size(self):
        far = turn_times((4, 5), 60)
        lags = lags_sum(wave_lags((HUGE, 7), far, 4), wave_lags((1, HUGE), turn_times(far, 2), 4))
        self.assertEqual([wave_rank(lags), most_from(lags, far), waves_on(lags, "all")], [2, (HUGE, 7), 2])
        self.assertEqual(power_at(silent_row(lags), far), (0, 1))
        for size in (HUGE, 10 ** 9999):
            moved = lags_sum(lags, (NIL, NIL, real(1, size)))
            row = barring_row(moved)
            self.assertLess(heard(moved, row)[0], 0)
            self.assertLess(heard(turned_lags(moved, far), steered(row, turn_times(far, -1)))[0], 0)

    def test_eight_unlike_lags(self):
        dice = random.Random(141)
        lags = (real(10 ** 6),) + tuple(oracle.told((Fraction(dice.randint(-10 ** 60, 10 ** 60), 10 ** 57 + k),
                                                     Fraction(dice.randint(-10 ** 60, 10 ** 60), 10 ** 57 + 9 * k + 1)))
                                        for k in range(7))
        self.assertEqual(wave_rank(lags), oracle.table_rank(lags))
        self.assertEqual(heard(lags, even_row(8)), oracle.pair(oracle.heard(lags, even_row(8))))
