"""Within the package: common divisors of polynomials, and how often their zeros come."""

import random
import unittest
from math import gcd

import oracle
from helpers import HUGE
from mastrows.polys import (PRIME, derivative, digits_of, exact_quotient, greatest_divisor, guessed_divisor, layers,
                            poly_product, primitive, square_free, stepped_divisor, value_of_bits)


def some_poly(dice, degree, size):
    return [dice.randint(-size, size) for _ in range(degree)] + [dice.randint(1, size)]


def product(*polys):
    out = [1]
    for poly in polys:
        out = poly_product(out, poly)
    return out


def by_fractions(first, second):
    """Euclid's way with Python's fractions, told in whole numbers."""
    first, second = [oracle.Fraction(a) for a in first], [oracle.Fraction(a) for a in second]
    while second:
        first, second = second, oracle.less_multiple(first, second)
    bottom = 1
    for a in first:
        bottom = bottom * a.denominator // gcd(bottom, a.denominator)
    return upright(primitive([int(a * bottom) for a in first]))


def upright(poly):
    return poly if poly[-1] > 0 else [-number for number in poly]


class Divisors(unittest.TestCase):
    def test_by_hand(self):
        self.assertEqual(greatest_divisor([-1, 0, 1], [1, 2, 1]), [1, 1])
        self.assertEqual(greatest_divisor([-6, 0, 6], [4, -8, 4]), [-1, 1])
        self.assertEqual(greatest_divisor([5, 10], [-1, -2]), [1, 2])
        self.assertEqual(greatest_divisor([1, 1], [1, 2]), [1])
        self.assertEqual(greatest_divisor([-4, -2], []), [2, 1])
        self.assertEqual(greatest_divisor([7], []), [1])
        self.assertEqual(greatest_divisor([0, 0, 3], [0, 5]), [0, 1])

    def test_against_fractions(self):
        dice = random.Random(120)
        for _ in range(200):
            size = dice.choice([2, 5, 10 ** 3, 10 ** 12, PRIME])
            common = product(*[some_poly(dice, dice.randint(0, 2), size) for _ in range(dice.randint(0, 3))])
            first = product(common, some_poly(dice, dice.randint(0, 3), size))
            second = product(common, some_poly(dice, dice.randint(0, 3), size))
            if dice.random() < 0.3:
                first, second = [-number for number in first], [number * PRIME for number in second]
            wanted = by_fractions(first, second)
            self.assertEqual(greatest_divisor(first, second), wanted)
            self.assertEqual(upright(stepped_divisor(primitive(first), primitive(second))), wanted)
            self.assertEqual(upright(guessed_divisor(primitive(first), primitive(second))), wanted)

    def test_any_size(self):
        common = [HUGE, -3, 0, HUGE + 2]
        first, second = product(common, common, [1, 5]), product(common, [HUGE, 7])
        self.assertEqual(greatest_divisor(first, second), common)
        self.assertEqual(greatest_divisor(second, first), common)

    def test_values(self):
        dice = random.Random(121)
        for _ in range(100):
            poly = some_poly(dice, dice.randint(0, 6), 127)
            value = value_of_bits(poly, 8)
            self.assertEqual(value, sum(number * 256 ** k for k, number in enumerate(poly)))
            self.assertEqual(digits_of(value, 8), poly)
        self.assertEqual(digits_of(128, 8), [-128, 1])

    def test_quotients(self):
        self.assertEqual(exact_quotient([-1, 0, 1], [1, 1]), [-1, 1])
        self.assertEqual(exact_quotient([6, 4], [3, 2]), [2])
        for poly, divisor in [([1, 0, 1], [1, 1]), ([1, 3], [1, 2]), ([1, 1], [1, 0, 1]), ([1, 2, 3], [1, 2])]:
            self.assertIsNone(exact_quotient(poly, divisor))


class Layers(unittest.TestCase):
    def test_how_often_zeros_come(self):
        one, two, three = [-2, 0, 1], [1, 3], [5, 1, 1]
        poly = product(one, two, two, three, three, three)
        self.assertEqual(layers(poly), [product(one, two, three), product(two, three), three])
        self.assertEqual(layers([-number for number in poly])[1:], [product(two, three), three])
        self.assertEqual([layers([7]), layers([3, 6]), layers([0, 0, 5])], [[], [[1, 2]], [[0, 1], [0, 1]]])

    def test_any(self):
        dice = random.Random(122)
        for _ in range(60):
            parts = [some_poly(dice, dice.randint(1, 2), 9) for _ in range(3)]
            poly = product(*[parts[k] for k in range(3) for _ in range(dice.randint(0, 3))])
            found = layers(poly)
            self.assertEqual(product(*found), primitive(poly))
            self.assertTrue(all(layer[-1] > 0 and len(layer) > 1 for layer in found))
            for k, layer in enumerate(found):
                self.assertEqual(by_fractions(layer, derivative(layer)), [1])
                self.assertEqual(square_free(layer), layer)
                if k > 0:
                    self.assertIsNotNone(exact_quotient(found[k - 1], layer))
