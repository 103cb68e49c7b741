"""Point 21: two rows that tell a turn."""

import random
import unittest
from fractions import Fraction
from itertools import product

import oracle
from helpers import HUGE, I, LESS, NIL, ONE, TWO, real
from mastrows.bearings import folding_turns, reading_at, tells_turn, turn_floor, turn_side, word_of_reading
from mastrows.errors import InvalidArc, InvalidTurn, Silent
from mastrows.makers import even_row, fed, steered
from mastrows.turns import is_on, is_turn, joined_turns, turn_times, turned_arc
from samples import ARCS, SPOTS, some_row, whole

LONE, PAIR, TRIPLE = (ONE,), (ONE, ONE), (ONE,) * 3
BOW, NEAR, OVER_HALF = ((0, 1), (1, 1)), ((-1, 3), (1, 3)), ((1, 1), (-1, 1))
# the power of the pair is 1 where cos is - 1 / 2, 3 where it is 1 / 2: at the turns 3^(1/2) and 3^(-1/2)
ROOT, SHORT_ROOT = (Fraction(26, 15), Fraction(97, 56)), (Fraction(15, 26), Fraction(56, 97))


def place(arc, turn):
    """A number that grows along the arc, in its order, for `all` from half on."""
    low = "half" if arc == "all" else arc[0]
    def rank(spot):
        return (0, 0) if spot == "half" else (1, Fraction(*spot))
    before = arc != "all" and rank(turn) < rank(low)
    return (before,) + rank(turn)


def reading(row, other, turn):
    return oracle.power(other, turn) / oracle.power(row, turn)


def growth(row, other):
    """The lags of q' p - q p'."""
    p, q = oracle.lags(row), oracle.lags(other)
    return oracle.summed(oracle.convolved(oracle.slope(q), p), oracle.convolved(q, oracle.slope(p)), -1)


def word(row, other, arc):
    signs = oracle.sign_row(growth(row, other), arc)
    if signs == (0,):
        return "same"
    return "folds" if arc == "all" or {1, -1} <= set(signs) else "tells"


def heard(row, arc):
    return 0 not in oracle.sign_row(oracle.lags(row), arc)


class Readings(unittest.TestCase):
    def test_by_hand(self):
        self.assertEqual([reading_at(LONE, PAIR, turn) for turn in ((1, 1), (0, 1), "half")], [(2, 1), (4, 1), (0, 1)])
        self.assertEqual([reading_at((TWO,), PAIR, (1, 2)), reading_at(PAIR, TRIPLE, (0, 1))], [(4, 5), (9, 4)])
        self.assertEqual(reading_at((NIL, real(HUGE)), (ONE, I), (1, 1)), (0, 1))

    def test_silent(self):
        for row, turn in [(PAIR, "half"), ((ONE, LESS), (0, 1)), (whole(1, 0, 1), (-1, 1)), (even_row(8), (1, 1))]:
            for other in (LONE, PAIR, row):
                with self.assertRaises(Silent):
                    reading_at(row, other, turn)

    def test_any(self):
        dice = random.Random(100)
        for _ in range(60):
            row, other, turn = some_row(dice), some_row(dice), dice.choice(SPOTS)
            if oracle.power(row, turn) != 0:
                self.assertEqual(reading_at(row, other, turn), oracle.pair(reading(row, other, turn)))


class Words(unittest.TestCase):
    def check(self, row, other, arc):
        wanted = word(row, other, arc)
        self.assertEqual(word_of_reading(row, other, arc), wanted, (row, other, arc))
        self.assertIs(tells_turn(row, other, arc), wanted == "tells")
        turns = folding_turns(row, other, arc)
        if wanted == "folds":
            self.folds(row, other, arc, turns)
        else:
            self.assertIsNone(turns)
        return wanted

    def folds(self, row, other, arc, turns):
        self.assertEqual(len(turns), 3)
        self.assertTrue(all(is_turn(turn) and is_on(arc, turn) for turn in turns))
        first, middle, last = [place(arc, turn) for turn in turns]
        self.assertTrue(first < middle < last, (arc, turns))
        low, here, high = [reading(row, other, turn) for turn in turns]
        self.assertTrue(here > max(low, high) or here < min(low, high), (row, other, arc, turns))

    def test_of_the_document(self):
        self.assertEqual([tells_turn(LONE, PAIR, BOW), tells_turn(LONE, PAIR, NEAR), word_of_reading(LONE, PAIR, NEAR),
                          word_of_reading(LONE, PAIR, "all"), word_of_reading(LONE, LONE, NEAR),
                          folding_turns(LONE, PAIR, BOW), folding_turns(LONE, LONE, NEAR)],
                         [True, False, "folds", "folds", "same", None, None])

    def test_the_same(self):
        far = turn_times((3, 4), 30)
        for row in ((TWO, ONE), (NIL, ONE), whole(1, 2, 5), steered((TWO, ONE), far)):
            for other in (row, oracle.mirror(row), fed(row, I), fed(row, real(2, 3)), (NIL,) + row, row + (NIL,)):
                for arc in ("all", BOW, OVER_HALF, ("half", (0, 1)), ((0, 1), "half")):
                    self.assertEqual(self.check(row, other, arc), "same")

    def test_of_one_pair(self):
        for arc, wanted in [(BOW, "tells"), (((-1, 1), (0, 1)), "tells"), (((0, 1), "half"), "tells"), (NEAR, "folds"),
                            (OVER_HALF, "folds"), (("half", (0, 1)), "tells"), (((-1, HUGE), (1, HUGE)), "folds"),
                            (((HUGE, 1), (-HUGE, 1)), "folds"), (((0, 1), (-HUGE, 1)), "folds"),
                            (((-1, HUGE), "half"), "folds"), (((1, HUGE), (HUGE, 1)), "tells"), ("all", "folds")]:
            self.assertEqual(self.check(LONE, PAIR, arc), wanted, arc)
            self.assertEqual(self.check((TWO,), PAIR, arc), wanted, arc)

    def test_it_may_stay_for_a_moment(self):
        # both powers are the same at 1, where their difference has a zero three times
        row, other = whole(0, (-2, -1), (1, 1)), whole(1, (-2, -1), (0, 1))
        for turn in ((0, 1), (1, 3), "half", (-2, 5)):
            one, two = steered(row, turn), steered(other, turn)
            for far in (8, 1000, 10 ** 20):
                beside = turned_arc(((-1, far), (1, far)), turn)
                self.assertEqual(reading_at(one, two, turn), (1, 1))
                self.assertEqual(self.check(one, two, beside), "tells")
                self.assertEqual(self.check(two, one, beside), "tells")
                self.assertEqual(turn_side(one, two, beside, (1, 1), turn), 0)
                self.assertEqual(turn_side(one, two, beside, (1, 1), beside[0]), 1)
                self.assertEqual(turn_side(one, two, beside, (1, 1), beside[1]), -1)
                self.assertEqual(self.check(one, two, (beside[0], turn)), "tells")
                self.assertEqual(self.check(one, two, (turn, beside[1])), "tells")
        self.assertEqual(oracle.sign_row(growth(row, other), ((-1, 8), (1, 8))), (1, 0, 1))

    def test_peaks_that_no_fraction_tells(self):
        # the power of the triple is least, 0, where cos is - 1 / 2, and has a peak at half
        for arc in (((1, 1), (2, 1)), ((5, 3), (7, 4)), ((1, 1), "half"), ((-2, 1), (-1, 1)), ((2, 1), (1, 1)), "all"):
            self.assertEqual(self.check(LONE, TRIPLE, arc), "folds")
        for arc in (((1, 1), (5, 3)), ((7, 4), (2, 1)), ((7, 4), "half"), (("half"), (-7, 4))):
            self.assertEqual(self.check(LONE, TRIPLE, arc), "tells")

    def test_narrow_peaks(self):
        far, beside = 10 ** 80, 10 ** 80 + 1
        for low, high in [((1, far), (-1, beside)), ((-1, beside), (1, far)), ((-1, far), (1, 1)), ((-1, 1), (1, far))]:
            if low[0] < 0:
                self.assertEqual(self.check(LONE, PAIR, (low, high)), "folds")
        for turn in ((1, 3), "half", (-far, 7), (7, far)):
            row = steered(PAIR, turn)
            narrow = turned_arc(((-1, far), (1, beside)), turn)
            self.assertEqual(self.check(LONE, row, narrow), "folds")
            self.assertEqual(self.check(LONE, row, (turn, narrow[1])), "tells")
            self.assertEqual(self.check(LONE, row, (narrow[0], turn)), "tells")
            self.assertEqual(self.check(LONE, row, "all"), "folds")

    def test_silent(self):
        for function in (tells_turn, word_of_reading, folding_turns):
            for row, arcs in [(PAIR, ["all", OVER_HALF, ((0, 1), "half"), ("half", (0, 1))]),
                              ((ONE, LESS), ["all", NEAR, BOW, ((-1, 1), (0, 1))]),
                              (TRIPLE, ["all", ((1, 1), (2, 1)), ((5, 3), (7, 4)), ((-2, 1), (-1, 1))])]:
                for arc in arcs:
                    for other in (LONE, row, fed(row, I), TRIPLE):
                        with self.assertRaises(Silent):
                            function(row, other, arc)
        for row, arc in [(PAIR, BOW), (PAIR, ((-HUGE, 1), (HUGE, 1))), ((ONE, LESS), ((1, HUGE), (-1, HUGE))),
                         (TRIPLE, ((-1, 1), (1, 1))), (TRIPLE, ((7, 4), (-7, 4)))]:
            for other in (LONE, PAIR, whole(1, 2, 0, 5)):
                self.check(row, other, arc)

    def test_any(self):
        dice, met = random.Random(101), []
        while len(met) < 60:
            row, other, arc = some_row(dice, 4), some_row(dice, 4), dice.choice(ARCS)
            if heard(row, arc):
                met.append(self.check(row, other, arc))
            else:
                with self.assertRaises(Silent):
                    word_of_reading(row, other, arc)
        self.assertTrue(min(met.count("tells"), met.count("folds"), met.count("same")) > 0)

    def test_all_around(self):
        dice = random.Random(102)
        far = turn_times((1, 9), 40)
        for _ in range(20):
            row, other = (real(dice.randint(5, 9)), ONE, I), some_row(dice, 5)
            one, two = steered(row, far), steered(other, far)
            for arc in ("all", BOW, OVER_HALF):
                wanted = self.check(row, other, arc)
                turned = turned_arc(arc, far)
                self.assertEqual(word_of_reading(one, two, turned), wanted)
                if wanted == "folds":
                    self.folds(one, two, turned, folding_turns(one, two, turned))

    def test_the_same_at_half_and_at_many_turns(self):
        # nothing is sent toward half, 0, 1, .., 5
        other = (ONE,)
        for turn in ("half",) + tuple((k, 1) for k in range(6)):
            z = oracle.point(turn)
            other = oracle.product(other, (oracle.told((-z[0], -z[1])), ONE))
        self.assertEqual(len(other), 8)
        for row in (LONE, (TWO, ONE), whole(5, 1, 1)):
            self.assertEqual(self.check(row, other, "all"), "folds")
            self.assertEqual(self.check(steered(row, (1, 2)), steered(other, (1, 2)), "all"), "folds")

    def test_eight_masts(self):
        loud = whole(9, 1, 0, 1, 0, 0, 1, 1)
        for arc in ("all", BOW, ((0, 1), (1, 20)), OVER_HALF):
            self.assertIn(self.check(loud, even_row(8), arc), ("tells", "folds"))
            self.check(even_row(8)[:1], even_row(8), arc)


class Sides(unittest.TestCase):
    def test_of_the_document(self):
        self.assertEqual([turn_side(LONE, PAIR, BOW, (3, 1), (1, 2)), turn_side(LONE, PAIR, BOW, (2, 1), (1, 1)),
                          turn_side(LONE, PAIR, BOW, (1, 1), (1, 2)), turn_side(LONE, PAIR, NEAR, (4, 1), (0, 1))],
                         [1, 0, None, None])

    def test_by_hand(self):
        # from 0 to half the power falls from 4 to 0
        arc = ((0, 1), "half")
        for turn, side in [((0, 1), 1), ((1, 2), 1), (oracle.pair(SHORT_ROOT[0]), 1), (oracle.pair(SHORT_ROOT[1]), 1),
                           ((97, 168), -1), ((3, 5), -1), ((1, 1), -1), ("half", -1)]:
            self.assertEqual(turn_side(LONE, PAIR, arc, (3, 1), turn), side, turn)
        for worth, turn, side in [((4, 1), (0, 1), 0), ((4, 1), (1, HUGE), -1), ((4, 1), "half", -1), ((0, 1), "half", 0),
                                  ((0, 1), (0, 1), 1), ((0, 1), (HUGE, 1), 1), ((2, 1), (1, 1), 0), ((16, 5), (1, 2), 0),
                                  ((4 * HUGE + 1, HUGE), (0, 1), None), ((5, 1), (1, 1), None)]:
            self.assertEqual(turn_side(LONE, PAIR, arc, worth, turn), side, (worth, turn))
        # and rises from half on
        back = ("half", (0, 1))
        for worth, turn, side in [((0, 1), "half", 0), ((0, 1), (0, 1), -1), ((4, 1), "half", 1), ((4, 1), (0, 1), 0),
                                  ((1, 1), (-1, 1), -1), ((1, 1), (-2, 1), 1), ((2, 1), (-1, 1), 0), ((5, 1), "half", None)]:
            self.assertEqual(turn_side(LONE, PAIR, back, worth, turn), side, (worth, turn))

    def test_over_half(self):
        # the power of (1, -1) has its peak at half: turned by a quarter it rises from the one side to the other
        row = steered(PAIR, (1, 1))
        arc = OVER_HALF
        self.assertEqual(word_of_reading(LONE, row, arc), "tells")
        for worth, turn, side in [((2, 1), "half", 0), ((2, 1), (2, 1), 1), ((2, 1), (-2, 1), -1), ((4, 1), (1, 1), 0),
                                  ((0, 1), (-1, 1), 0), ((4, 1), "half", -1), ((0, 1), "half", 1), ((3, 1), (1, 1), 1),
                                  ((1, 1), "half", 1), ((3, 1), "half", -1), ((9, 1), "half", None)]:
            self.assertEqual(turn_side(LONE, row, arc, worth, turn), side, (worth, turn))

    def test_where_they_do_not_tell(self):
        for arc in ("all", NEAR, OVER_HALF):
            for worth in ((0, 1), (4, 1), (3, 1)):
                self.assertIsNone(turn_side(LONE, PAIR, arc, worth, (0, 1) if arc != OVER_HALF else "half"))
        self.assertIsNone(turn_side(PAIR, PAIR, BOW, (1, 1), (0, 1)))
        self.assertIsNone(turn_side(LONE, LONE, "all", (1, 1), "half"))

    def test_turns_that_are_not_on_the_arc(self):
        for arc, turn in [(BOW, (2, 1)), (BOW, (-1, HUGE)), (BOW, "half"), (OVER_HALF, (0, 1)), (("half", (0, 1)), (1, HUGE)),
                          (((0, 1), "half"), (-HUGE, 1))]:
            for row in (LONE, PAIR):
                with self.assertRaises(InvalidTurn) as caught:
                    turn_side(row, PAIR, arc, (1, 1), turn)
                self.assertIs(caught.exception.given, turn)

    def test_silent(self):
        for worth in ((0, 1), (5, 1)):
            with self.assertRaises(Silent):
                turn_side(PAIR, LONE, OVER_HALF, worth, (2, 1))
            with self.assertRaises(Silent):
                turn_side(TRIPLE, TRIPLE, ((5, 3), (7, 4)), worth, (7, 4))
            with self.assertRaises(Silent):
                turn_side(PAIR, PAIR, "all", worth, (0, 1))

    def test_any(self):
        dice, met = random.Random(103), []
        for _ in range(400):
            row, other, arc = some_row(dice, 3), some_row(dice, 3), dice.choice(ARCS[1:])
            if not heard(row, arc) or word_of_reading(row, other, arc) != "tells":
                continue
            spots = [turn for turn in SPOTS if is_on(arc, turn)]
            turn, there = dice.choice(spots), dice.choice(spots)
            worth = oracle.pair(reading(row, other, there))
            side = (place(arc, there) > place(arc, turn)) - (place(arc, there) < place(arc, turn))
            self.assertEqual(turn_side(row, other, arc, worth, turn), side, (row, other, arc, there, turn))
            ends = [reading(row, other, end) for end in arc]
            beyond = oracle.pair(max(ends) + Fraction(1, 10 ** 20))
            self.assertIsNone(turn_side(row, other, arc, beyond, turn))
            if min(ends) > 0:
                self.assertIsNone(turn_side(row, other, arc, oracle.pair(min(ends) * Fraction(99, 100)), turn))
            met.append(side)
        self.assertTrue(set(met) == {-1, 0, 1} and len(met) > 30)


class Floors(unittest.TestCase):
    def test_of_the_document(self):
        self.assertEqual(turn_floor(LONE, PAIR, BOW, (3, 1), 10), 5)

    def test_by_hand(self):
        arc = ((0, 1), (2, 1))
        for worth, parts, k in [((3, 1), 1, 0), ((3, 1), 1000000, 577350), ((1, 1), 1000000, 1732050), ((1, 1), 1, 1),
                                ((4, 1), 7, 0), ((4, 5), 7, 14), ((2, 1), 3, 3), ((16, 5), 2, 1), ((16, 5), 3, 1),
                                ((4 * HUGE + 1, HUGE), 1, None), ((799, 1000), 1, None), ((0, 1), 1, None)]:
            self.assertEqual(turn_floor(LONE, PAIR, arc, worth, parts), k, (worth, parts))
        back = ((-2, 1), (0, 1))
        for worth, parts, k in [((3, 1), 1, -1), ((3, 1), 1000000, -577351), ((1, 1), 1000000, -1732051), ((1, 1), 1, -2),
                                ((4, 1), 7, 0), ((4, 5), 7, -14), ((2, 1), 3, -3), ((16, 5), 2, -1), ((16, 5), 3, -2),
                                ((5, 1), 9, None), ((1, 2), 9, None)]:
            self.assertEqual(turn_floor(LONE, PAIR, back, worth, parts), k, (worth, parts))

    def test_far_arcs(self):
        arc = ((1, 1), (10 ** 400, 1))
        # the turn t has the power 4 / (1 + t t)
        for square, parts, k in [(10 ** 40, 1, 10 ** 20), (10 ** 40 + 2, 1, 10 ** 20), (10 ** 40 - 2, 1, 10 ** 20 - 1),
                                 (10 ** 40, 1000000, 10 ** 26), (2, 1000000, 1414213)]:
            worth = oracle.pair(Fraction(4, 1 + square))
            self.assertEqual(turn_floor(LONE, PAIR, arc, worth, parts), k)
            back = (-arc[1][0], 1), (-1, 1)
            exact = (k * k == square * parts * parts)
            self.assertEqual(turn_floor(LONE, PAIR, back, worth, parts), -k if exact else -k - 1)
        self.assertEqual(turn_floor(LONE, PAIR, arc, (1, 10 ** 900), 1), None)

    def test_where_they_do_not_tell(self):
        for row, other, arc in [(LONE, PAIR, NEAR), (PAIR, PAIR, BOW), (LONE, LONE, BOW), (LONE, TRIPLE, ((1, 1), (2, 1)))]:
            for worth in ((0, 1), (1, 1), (4, 1)):
                self.assertIsNone(turn_floor(row, other, arc, worth, 10))

    def test_arcs_that_are_refused(self):
        for arc in ("all", OVER_HALF, ("half", (0, 1)), ((0, 1), "half"), ((1, HUGE), (0, 1))):
            for row in (LONE, PAIR):
                with self.assertRaises(InvalidArc) as caught:
                    turn_floor(row, PAIR, arc, (1, 1), 10)
                self.assertIs(caught.exception.given, arc)

    def test_silent(self):
        with self.assertRaises(Silent):
            turn_floor((ONE, LESS), PAIR, BOW, (1, 1), 10)
        with self.assertRaises(Silent):
            turn_floor(TRIPLE, PAIR, ((1, 1), (2, 1)), (9, 1), 10)

    def test_any(self):
        dice, met = random.Random(104), 0
        plain = [arc for arc in ARCS[1:] if "half" not in arc and Fraction(*arc[0]) < Fraction(*arc[1])]
        for _ in range(600):
            row, other, arc = some_row(dice, 3), some_row(dice, 3), dice.choice(plain)
            if not heard(row, arc) or word_of_reading(row, other, arc) != "tells":
                continue
            parts, there = dice.choice([1, 3, 1000, 1000000]), Fraction(dice.randint(0, 12), 12)
            low, high = [Fraction(*end) for end in arc]
            there = low + (high - low) * there
            worth = oracle.pair(reading(row, other, oracle.pair(there)))
            self.assertEqual(turn_floor(row, other, arc, worth, parts), there * parts // 1, (row, other, arc, there))
            ends = [reading(row, other, end) for end in arc]
            self.assertIsNone(turn_floor(row, other, arc, oracle.pair(max(ends) + 1), parts))
            # a reading that is met at no turn that a fraction tells, mostly
            worth = sum(ends) / 2
            k = turn_floor(row, other, arc, oracle.pair(worth), parts)
            self.assertTrue((low * parts // 1) <= k <= high * parts)
            beside = [min(max(Fraction(j, parts), low), high) for j in (k, k + 1)]
            one, two = [reading(row, other, oracle.pair(turn)) - worth for turn in beside]
            self.assertTrue(one * two <= 0 and (two != 0 or beside[1] == high), (row, other, arc, k))
            met += 1
        self.assertGreater(met, 20)

    def test_any_size(self):
        far = turn_times((1, 50), 30)
        row, other = steered((TWO, ONE), far), steered(PAIR, far)
        arc = (far, joined_turns(far, (1, 10)))
        worth = reading_at(row, other, joined_turns(far, (1, 20)))
        there = Fraction(*joined_turns(far, (1, 20)))
        self.assertEqual(turn_side(row, other, arc, worth, joined_turns(far, (1, 20))), 0)
        self.assertEqual(turn_floor(row, other, arc, worth, 1000), there * 1000 // 1)
