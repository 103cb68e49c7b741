"""Points 25 and 26: side lobes."""

import random
import unittest
from fractions import Fraction
from math import isqrt

import oracle
from helpers import HALF, HUGE, ONE, real
from mastrows.lobes import can_be_below, edge_floor, least_lobe, lobe_row
from mastrows.makers import fed
from mastrows.patterns import greatest_floor, lags_sum, signs_on, zeros_on
from mastrows.rows import is_row, lags_of, power_at
from samples import some_row

EDGES = [Fraction(1), Fraction(3, 4), Fraction(1, 2), Fraction(1, 10), Fraction(7, 3), Fraction(20),
         Fraction(1, 10 ** 40),
         Fraction(10 ** 40), Fraction(HUGE, 7), Fraction(7, HUGE)]


def q(many, edge):
    """Chebyshev's polynomial of the degree n at the root of s, squared: (1 + T_n(2 s - 1)) / 2."""
    x, last, here = 1 + 2 * edge * edge, Fraction(1), 1 + 2 * edge * edge
    if many == 1:
        return Fraction(1)
    for _ in range(many - 2):
        last, here = here, 2 * x * here - last
    return (1 + here) / 2


def told_edge(edge):
    return oracle.pair(edge)


def sides(edge):
    """The side directions: from the edge over half to its back."""
    return oracle.pair(edge), oracle.pair(-edge)


def less(row, level):
    """The lags of the power less a level."""
    return lags_sum(lags_of(row), (oracle.told((-Fraction(level), 0)),))


class LeastLobe(unittest.TestCase):
    def test_of_the_document(self):
        self.assertEqual([least_lobe(1, (1, 1)), least_lobe(2, (1, 1)), least_lobe(3, (1, 1)), least_lobe(3, (3, 4))],
                         [(1, 1), (1, 2), (1, 9), (64, 289)])
        self.assertEqual(lobe_row(2, (1, 1)), (HALF, HALF))
        self.assertEqual(lobe_row(3, (3, 4)), (real(25, 68), real(9, 34), real(25, 68)))

    def test_by_chebyshev(self):
        for many in range(1, 9):
            for edge in EDGES:
                self.assertEqual(least_lobe(many, told_edge(edge)), oracle.pair(1 / q(many, edge)))

    def test_one_mast(self):
        for edge in EDGES:
            self.assertEqual(least_lobe(1, told_edge(edge)), (1, 1))
            self.assertEqual(lobe_row(1, told_edge(edge)), (ONE,))

    def test_it_falls_as_the_edge_grows(self):
        edges = sorted(EDGES)
        for many in range(2, 9):
            lobes = [oracle.fraction(least_lobe(many, told_edge(edge))) for edge in edges]
            self.assertTrue(all(high > low for high, low in zip(lobes, lobes[1:])))
            self.assertTrue(all(0 < lobe < 1 for lobe in lobes))

    def test_it_falls_as_masts_are_added(self):
        for edge in EDGES:
            lobes = [oracle.fraction(least_lobe(many, told_edge(edge))) for many in range(1, 9)]
            self.assertTrue(all(high > low for high, low in zip(lobes, lobes[1:])))


class LobeRow(unittest.TestCase):
    def test_by_the_recursion(self):
        # R_n of point 25, written out with Python's fractions
        for many in range(1, 9):
            for edge in EDGES[:8]:
                s, rows = 1 + edge * edge, [[Fraction(1)], [Fraction(1, 2), Fraction(1, 2)]]
                for k in range(1, many - 1):
                    factor = Fraction(1) if k % 2 == 0 else s
                    wide = [factor * (a + b) for a, b in zip([Fraction(0)] + rows[k], rows[k] + [Fraction(0)])]
                    past = [Fraction(0)] + rows[k - 1] + [Fraction(0)]
                    rows.append([a - b for a, b in zip(wide, past)])
                row = rows[many - 1]
                self.assertEqual(lobe_row(many, told_edge(edge)), tuple(oracle.told((a / sum(row), 0)) for a in row))

    def test_what_it_sends(self):
        for many in range(1, 9):
            for edge in EDGES[:8]:
                row = lobe_row(many, told_edge(edge))
                self.assertTrue(is_row(row) and len(row) == many)
                self.assertEqual(oracle.told(oracle.sent(row, (0, 1))), ONE)
                self.assertEqual(row, row[::-1])
                self.assertEqual(power_at(row, told_edge(edge)), least_lobe(many, told_edge(edge)))

    def test_it_is_at_the_lobe_and_never_above(self):
        for many in range(2, 9):
            for edge in EDGES[:8]:
                row, lobe = lobe_row(many, told_edge(edge)), 1 / q(many, edge)
                signs = signs_on(less(row, lobe), sides(edge))
                self.assertNotIn(1, signs)
                # as often as there are masts: with signs that take turns, so no row is lower
                self.assertEqual(zeros_on(less(row, lobe), sides(edge)), many)
                self.assertEqual(signs_on(less(row, lobe), (told_edge(-edge), told_edge(edge))), (0, 1, 0))

    def test_by_the_polynomials_of_chebyshev(self):
        # the size square at the turn t is V_n(c)^2 / Q, c c = s / (1 + t t)
        dice = random.Random(120)
        for many in range(2, 9):
            for edge in EDGES[:6]:
                for _ in range(4):
                    turn = Fraction(dice.randint(-30, 30), dice.randint(1, 9))
                    square, n = (1 + edge * edge) / (1 + turn * turn), many - 1
                    last, here = Fraction(1), 2 * square - 1
                    for _ in range(n - 1):
                        last, here = here, 2 * (2 * square - 1) * here - last
                    row = lobe_row(many, told_edge(edge))
                    self.assertEqual(oracle.power(row, oracle.pair(turn)), (1 + here) / 2 / q(many, edge))


class OfAllRows(unittest.TestCase):
    def reaches(self, row, edge):
        """A row with the power 1 toward the turn 0 has at least the least lobe somewhere at the side."""
        power = oracle.power(row, (0, 1))
        lobe = power / q(len(row), edge)
        signs = signs_on(less(row, lobe), sides(edge))
        self.assertGreaterEqual(max(signs), 0)
        return signs

    def test_any_rows(self):
        dice = random.Random(121)
        for _ in range(150):
            row = some_row(dice)
            if oracle.power(row, (0, 1)) > 0:
                self.reaches(row, dice.choice(EDGES[:6]))

    def test_rows_beside_the_lobe_row(self):
        # bent by ever so little they are above it somewhere, with their own power toward 0 taken into account
        dice = random.Random(122)
        for many in range(2, 9):
            for edge in EDGES[:4]:
                row = lobe_row(many, told_edge(edge))
                for size in (2, 10 ** 3, 10 ** 20):
                    at = dice.randrange(many)
                    bend = Fraction(dice.choice([1, -1]), size), Fraction(dice.choice([1, -1, 0]), size)
                    feeds = list(row)
                    plain = oracle.number(row[at])
                    feeds[at] = oracle.told((plain[0] + bend[0], plain[1] + bend[1]))
                    self.assertIn(1, self.reaches(tuple(feeds), edge))

    def test_the_lobe_row_alone_but_for_a_factor(self):
        for many in range(2, 9):
            row = fed(lobe_row(many, (1, 2)), ((3, 5), (4, 5)))
            self.assertEqual(max(self.reaches(row, Fraction(1, 2))), 0)
            self.assertEqual(greatest_floor(lags_of(row), ((1, 2), (-1, 2)), 1000000),
                             1000000 // q(many, Fraction(1, 2)))


class CanBeBelow(unittest.TestCase):
    def test_of_the_document(self):
        self.assertIs(can_be_below(3, (1, 1), (1, 9)), True)
        self.assertIs(can_be_below(3, (1, 1), (1, 10)), False)

    def test_just_met(self):
        for many in range(1, 9):
            for edge in EDGES:
                lobe = 1 / q(many, edge)
                self.assertIs(can_be_below(many, told_edge(edge), oracle.pair(lobe)), True)
                self.assertIs(can_be_below(many, told_edge(edge), oracle.pair(lobe + Fraction(1, 10 ** 6000))), True)
                less_one = lobe * (1 - Fraction(1, 10 ** 6000))
                self.assertIs(can_be_below(many, told_edge(edge), oracle.pair(less_one)), False)

    def test_ends(self):
        for many in range(1, 9):
            self.assertIs(can_be_below(many, (1, 3), (0, 1)), False)
            self.assertIs(can_be_below(many, (1, 3), (1, 1)), True)
            self.assertIs(can_be_below(many, (1, 3), (HUGE, 1)), True)
        self.assertIs(can_be_below(1, (HUGE, 1), (HUGE - 1, HUGE)), False)


class EdgeFloor(unittest.TestCase):
    def holds(self, many, level, parts):
        k = edge_floor(many, oracle.pair(level), parts)
        self.assertIsInstance(k, int)
        self.assertGreaterEqual(k, 0)
        if k > 0:
            self.assertGreaterEqual(1 / q(many, Fraction(k, parts)), level)
        self.assertLess(1 / q(many, Fraction(k + 1, parts)), level)
        return k

    def test_of_the_document(self):
        self.assertEqual([edge_floor(3, (1, 9), 4), edge_floor(2, (1, 3), 10), edge_floor(1, (1, 2), 1)], [4, 14, None])

    def test_two_masts_by_hand(self):
        # Q is 1 + edge * edge: k k is at most parts * parts * (1 / level - 1)
        for bottom in (1, 2, 3, 5, 10, 101, 10 ** 30 + 1):
            for parts in (1, 2, 10, 999999, 1000000):
                self.assertEqual(edge_floor(2, (1, bottom), parts), isqrt((bottom - 1) * parts * parts))

    def test_levels_just_met(self):
        for many in range(2, 9):
            for k in (1, 2, 3, 10, 12345, 10 ** 50):
                for parts in (1, 7, 1000000):
                    level = 1 / q(many, Fraction(k, parts))
                    self.assertEqual(self.holds(many, level, parts), k)
                    self.assertEqual(self.holds(many, level * (1 + Fraction(1, 10 ** 500)), parts), k - 1)
                    self.assertEqual(self.holds(many, level * (1 - Fraction(1, 10 ** 500)), parts), k)

    def test_any(self):
        dice = random.Random(123)
        for _ in range(400):
            level = Fraction(dice.randint(1, 20), dice.choice([3, 20, 21, 1000, 10 ** 12, 10 ** 100]))
            many, parts = dice.randint(2, 8), dice.choice([1, 2, 3, 10, 999999, 1000000])
            if level > 1:
                self.assertEqual(edge_floor(many, oracle.pair(level), parts), 0)
            else:
                self.holds(many, level, parts)

    def test_levels_from_1_on(self):
        for many in range(2, 9):
            for parts in (1, 10, 1000000):
                self.assertEqual(edge_floor(many, (1, 1), parts), 0)
                self.assertEqual(edge_floor(many, (HUGE, HUGE - 1), parts), 0)
                self.assertEqual(edge_floor(many, (HUGE, 1), parts), 0)
                self.assertEqual(edge_floor(many, (HUGE - 1, HUGE), parts), 0)

    def test_small_levels(self):
        for many in range(2, 9):
            for bottom in (10 ** 400, HUGE):
                k = self.holds(many, Fraction(1, bottom), 1000000)
                self.assertGreater(k, 10 ** (400 // (2 * many - 2)))

    def test_endlessly_many(self):
        for many in range(1, 9):
            for parts in (1, 1000000):
                self.assertIsNone(edge_floor(many, (0, 1), parts))
                self.assertIs(edge_floor(many, (1, 1), parts), None if many == 1 else 0)
        for level in ((1, 1), (1, 2), (1, HUGE), (HUGE - 1, HUGE)):
            self.assertIsNone(edge_floor(1, level, 7))
        for level in ((2, 1), (HUGE, HUGE - 1), (HUGE, 1), (10, 9)):
            self.assertEqual(edge_floor(1, level, 7), 0)

    def test_where_the_least_lobe_is_met(self):
        # the least lobe itself is let by both: by "at least" and by "at most"
        for many in range(2, 9):
            level = least_lobe(many, (9, 4))
            self.assertEqual(edge_floor(many, level, 4), 9)
            self.assertIs(can_be_below(many, (9, 4), level), True)
            self.assertIs(can_be_below(many, (9 * 1000 - 1, 4000), level), False)
