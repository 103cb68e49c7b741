"""Points 7 and 8: turns, directions and arcs."""

import unittest
from fractions import Fraction
from itertools import product

import oracle
from helpers import ARCS, HUGE, I, LESS, NO_ARCS, NO_TURNS, ONE, TURNS
from mastrows.complexes import complex_product, conjugate, is_complex, size_square
from mastrows.errors import NotOnCircle
from mastrows.turns import (back_turn, is_arc, is_on, is_turn, joined_turns, point_of, turn_of, turn_times,
                            turned_arc)

SOME = ["half", (0, 1), (1, 1), (-1, 1), (1, 2), (-1, 2), (2, 1), (-2, 1), (1, 3), (3, 1), (-3, 5), (7, 4), (100, 1)]
IN_ORDER = ["half", (-100, 1), (-2, 1), (-3, 2), (-1, 1), (-1, 2), (0, 1), (1, 100), (1, 2), (1, 1), (3, 2), (100, 1)]


def told(point):
    return oracle.pair(point[0]), oracle.pair(point[1])


class IsTurn(unittest.TestCase):
    def test_turns(self):
        for turn in TURNS + SOME:
            self.assertIs(is_turn(turn), True)

    def test_all_else(self):
        for k, value in enumerate(NO_TURNS):
            with self.subTest(k):
                self.assertIs(is_turn(value), False)


class IsArc(unittest.TestCase):
    def test_arcs(self):
        for arc in ARCS:
            self.assertIs(is_arc(arc), True)

    def test_pairs_of_turns_are_arcs_if_they_are_unlike(self):
        for pair in product(SOME, SOME):
            self.assertIs(is_arc(pair), pair[0] != pair[1])

    def test_all_else(self):
        for k, value in enumerate(NO_ARCS):
            with self.subTest(k):
                self.assertIs(is_arc(value), False)


class Points(unittest.TestCase):
    def test_points(self):
        self.assertEqual([point_of((0, 1)), point_of((1, 1)), point_of("half"), point_of((-1, 1))],
                         [ONE, I, LESS, conjugate(I)])
        for turn in SOME:
            self.assertEqual(point_of(turn), told(oracle.point(turn)))

    def test_points_have_the_size_1(self):
        for turn in TURNS + SOME:
            self.assertEqual(size_square(point_of(turn)), (1, 1))
            self.assertTrue(is_complex(point_of(turn)))

    def test_each_point_is_that_of_one_turn(self):
        for turn in TURNS + SOME:
            self.assertEqual(turn_of(point_of(turn)), turn)

    def test_turns_of_points(self):
        self.assertEqual(turn_of(((3, 5), (4, 5))), (1, 2))
        self.assertEqual(turn_of(((-3, 5), (4, 5))), (2, 1))
        self.assertEqual(turn_of(((-3, 5), (-4, 5))), (-2, 1))
        self.assertEqual(turn_of(ONE), (0, 1))
        self.assertEqual(turn_of(LESS), "half")

    def test_numbers_that_are_not_on_the_circle(self):
        for number in (((0, 1), (0, 1)), ((1, 1), (1, 1)), ((2, 1), (0, 1)), ((-2, 1), (0, 1)), ((3, 5), (3, 5)),
                       ((-1, 1), (1, HUGE)), ((HUGE, HUGE - 1), (0, 1))):
            with self.assertRaises(NotOnCircle) as caught:
                turn_of(number)
            self.assertIs(caught.exception.given, number)


class Joining(unittest.TestCase):
    def test_points_are_multiplied(self):
        for turn, other in product(SOME, SOME):
            joined = joined_turns(turn, other)
            self.assertTrue(is_turn(joined))
            self.assertEqual(point_of(joined), complex_product(point_of(turn), point_of(other)))

    def test_edges(self):
        self.assertEqual(joined_turns("half", "half"), (0, 1))
        self.assertEqual(joined_turns("half", (0, 1)), "half")
        self.assertEqual(joined_turns((0, 1), "half"), "half")
        self.assertEqual(joined_turns("half", (1, 1)), (-1, 1))
        self.assertEqual(joined_turns((1, 1), (1, 1)), "half")
        self.assertEqual(joined_turns((-1, 1), (-1, 1)), "half")
        self.assertEqual(joined_turns((2, 1), (1, 2)), "half")

    def test_backs(self):
        for turn in SOME:
            self.assertEqual(point_of(back_turn(turn)), conjugate(point_of(turn)))
            self.assertEqual(joined_turns(turn, back_turn(turn)), (0, 1))
        self.assertEqual([back_turn("half"), back_turn((0, 1)), back_turn((1, 2))], ["half", (0, 1), (-1, 2)])


class Times(unittest.TestCase):
    def test_powers(self):
        for turn in SOME:
            power, back = ONE, ONE
            for count in range(61):
                self.assertEqual(point_of(turn_times(turn, count)), power)
                self.assertEqual(point_of(turn_times(turn, -count)), back)
                power = complex_product(power, point_of(turn))
                back = complex_product(back, conjugate(point_of(turn)))

    def test_edges(self):
        self.assertEqual([turn_times("half", k) for k in (-60, -59, -1, 0, 1, 2, 59, 60)],
                         [(0, 1), "half", "half", (0, 1), "half", (0, 1), "half", (0, 1)])
        self.assertEqual([turn_times((1, 1), k) for k in (-60, -2, -1, 0, 1, 2, 3, 60)],
                         [(0, 1), "half", (-1, 1), (0, 1), (1, 1), "half", (-1, 1), (0, 1)])
        self.assertEqual([turn_times((1, 2), k) for k in (0, 1, -1, 2, -2)],
                         [(0, 1), (1, 2), (-1, 2), (4, 3), (-4, 3)])

    def test_what_is_returned_may_be_passed_again(self):
        once = turn_times((12346, 6789), 60)
        twice = turn_times(once, -60)
        self.assertTrue(is_turn(twice))
        self.assertEqual(turn_of(point_of(twice)), twice)
        self.assertEqual(joined_turns(turn_times(once, 60), twice), (0, 1))
        self.assertEqual([is_on((once, twice), once), is_on((once, twice), twice)], [True, True])
        self.assertTrue(is_arc(turned_arc((once, twice), once)))


class OnArcs(unittest.TestCase):
    def test_in_the_order_from_half_on(self):
        size = len(IN_ORDER)
        for low, high in product(range(size), range(size)):
            if low == high:
                continue
            arc = IN_ORDER[low], IN_ORDER[high]
            way = (high - low) % size
            for k in range(size):
                self.assertIs(is_on(arc, IN_ORDER[k]), (k - low) % size <= way, (arc, IN_ORDER[k]))

    def test_all(self):
        for turn in TURNS + SOME:
            self.assertIs(is_on("all", turn), True)

    def test_arcs_over_half(self):
        arc = ((1, 1), (-1, 1))
        self.assertEqual([is_on(arc, turn) for turn in ("half", (1, 1), (-1, 1), (2, 1), (-2, 1), (0, 1), (99, 100))],
                         [True, True, True, True, True, False, False])

    def test_arcs_that_begin_or_end_at_half(self):
        self.assertEqual([is_on(("half", (0, 1)), turn) for turn in ("half", (-5, 1), (0, 1), (1, HUGE), (5, 1))],
                         [True, True, True, False, False])
        self.assertEqual([is_on(((0, 1), "half"), turn) for turn in ("half", (5, 1), (0, 1), (-1, HUGE), (-5, 1))],
                         [True, True, True, False, False])

    def test_close_by(self):
        low, middle, high = [oracle.pair(Fraction(HUGE + k, HUGE + k + 2)) for k in (0, 1, 2)]
        self.assertEqual([is_on((low, high), turn) for turn in (low, middle, high)], [True, True, True])
        self.assertEqual([is_on((low, middle), turn) for turn in (low, middle, high)], [True, True, False])
        self.assertEqual([is_on((high, low), turn) for turn in (low, middle, high)], [True, False, True])


class TurnedArcs(unittest.TestCase):
    def test_examples(self):
        self.assertEqual(turned_arc(((0, 1), (1, 1)), (1, 1)), ((1, 1), "half"))
        self.assertEqual(turned_arc(((0, 1), (1, 1)), "half"), ("half", (-1, 1)))
        self.assertEqual(turned_arc(((0, 1), (1, 1)), (0, 1)), ((0, 1), (1, 1)))
        self.assertEqual([turned_arc("all", turn) for turn in SOME], ["all"] * len(SOME))

    def test_all_directions_are_turned(self):
        for low, high, turn, spot in product(SOME[:7], SOME[3:10], SOME[::3], SOME[::2]):
            if low != high:
                arc = turned_arc((low, high), turn)
                self.assertTrue(is_arc(arc))
                self.assertIs(is_on(arc, joined_turns(spot, turn)), is_on((low, high), spot))
