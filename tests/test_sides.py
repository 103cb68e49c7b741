"""Chains of Sturm in whole numbers, and on which side of the line zeros are."""

import random
import unittest
from fractions import Fraction

import oracle
from mastrows.sides import gap_of_sides, jumps, sturm_chain, zeros_on_line


def some_poly(dice, size):
    """A polynomial with so many numbers, many of them noughts, so that degrees fall by leaps."""
    poly = [dice.choice([0, 0, dice.randint(-9, 9), dice.randint(-10 ** 20, 10 ** 20)]) for _ in range(size)]
    return poly[:-1] + [dice.choice([1, -1, 3, -10 ** 15])]


def plain_chain(first, second):
    """The chain with Python's fractions."""
    out = [[Fraction(a) for a in first], [Fraction(a) for a in second]]
    while out[-1]:
        out.append([-a for a in oracle.less_multiple(out[-2], out[-1])])
    return out[:-1]


def multiplied(*polys):
    out = [1]
    for poly in polys:
        more = [0] * (len(out) + len(poly) - 1)
        for k, a in enumerate(out):
            for j, b in enumerate(poly):
                more[k + j] += a * b
        out = more
    return out


class Chains(unittest.TestCase):
    def test_multiples_above_nought(self):
        dice = random.Random(250)
        for _ in range(400):
            size = dice.randint(1, 9)
            first, second = some_poly(dice, size), some_poly(dice, dice.randint(1, size))
            if dice.random() < 0.3:
                common = some_poly(dice, dice.randint(1, 3))
                first, second = multiplied(first, common), multiplied(second, common)
            told, wanted = sturm_chain(first, second), plain_chain(first, second)
            self.assertEqual(len(told), len(wanted))
            self.assertEqual(told[:2], [first, second])
            for one, two in zip(told, wanted):
                factor = one[-1] / two[-1]
                self.assertGreater(factor, 0)
                self.assertEqual(one, [a * factor for a in two])

    def test_they_stay_short(self):
        # as long as determinants are, not twice as long with each step
        dice = random.Random(251)
        first, second = [[dice.randint(-10 ** 50, 10 ** 50) for _ in range(9 - k)] for k in (0, 1)]
        chain = sturm_chain(first, second)
        self.assertEqual(len(chain), 9)
        self.assertLess(abs(chain[-1][0]), 10 ** (50 * 17 + 30))


class Sides(unittest.TestCase):
    def test_jumps_of_a_derivative(self):
        # it jumps once, from below 0 to above, at each real zero
        dice = random.Random(252)
        for _ in range(60):
            zeros = dice.sample(range(-9, 10), dice.randint(1, 6))
            poly = multiplied(*[[-zero, 1] for zero in zeros], *[[5, 2, 1]] * dice.randint(0, 1))
            slope = [k * a for k, a in enumerate(poly)][1:]
            self.assertEqual(jumps(poly, slope), len(zeros))
            self.assertEqual(jumps(poly, [-a for a in slope]), -len(zeros))

    def test_gaps(self):
        # the product of t - w over complex numbers w that are not real, none the conjugate of another one
        dice = random.Random(253)
        for _ in range(200):
            spots = [(dice.randint(-5, 5), dice.choice([-3, -2, -1, 1, 2, 3])) for _ in range(dice.randint(0, 7))]
            spots = [(a, b) for a, b in spots if (a, -b) not in spots]
            real, side = [1], [0]
            for a, b in spots:
                real, side = ([x + y for x, y in zip(multiplied(real, [-a, 1]), multiplied(side, [b, 0]))],
                              [x + y for x, y in zip(multiplied(side, [-a, 1]), multiplied(real, [-b, 0]))])
            turn = dice.choice([(1, 0), (0, 1), (3, 4), (-1, 2), (0, -1), (-1, 0)])
            first = [turn[0] * x - turn[1] * y for x, y in zip(real, side)]
            second = [turn[0] * y + turn[1] * x for x, y in zip(real, side)]
            above = len([b for _, b in spots if b > 0])
            self.assertEqual(gap_of_sides(list(map(int, oracle.stripped(first))),
                                          list(map(int, oracle.stripped(second)))),
                             2 * above - len(spots))

    def test_zeros_on_the_line(self):
        for poly, many in [([1], 0), ([-2, 0, 1], 2), ([4, 0, -4, 0, 1], 4), ([1, 2, 1], 2), ([0, 0, 0, 5], 3),
                           ([1, 0, 1], 0),
                           ([0, 1, 0, 1], 1), ([-1, 3, -3, 1], 3), ([2, 0, 1, 0, -1], 2)]:
            self.assertEqual(zeros_on_line(poly), many)
