"""Point 6: fractions and complex numbers."""

import unittest
from fractions import Fraction
from itertools import product

import oracle
from helpers import COMPLEXES, FRACTIONS, HUGE, I, LESS, NIL, NO_COMPLEXES, ONE, real
from mastrows.complexes import complex_product, complex_sum, conjugate, is_complex, size_square

SMALL = [((a, 1), (b, 1)) for a in (-2, 0, 3) for b in (-1, 0, 2)] + [((1, 2), (-2, 3)), ((-5, 6), (1, 4)), ((0, 1), (3, 4))]


def plain(number):
    return Fraction(*number[0]), Fraction(*number[1])


def told(value):
    return oracle.pair(value[0]), oracle.pair(value[1])


class IsComplex(unittest.TestCase):
    def test_complex_numbers(self):
        for number in COMPLEXES + SMALL + [(a, b) for a in FRACTIONS for b in FRACTIONS]:
            self.assertIs(is_complex(number), True)

    def test_all_else(self):
        for k, value in enumerate(NO_COMPLEXES):
            with self.subTest(k):
                self.assertIs(is_complex(value), False)

    def test_fractions_are_reduced(self):
        for n, m in product(range(-6, 7), range(-3, 7)):
            reduced = m > 0 and (Fraction(n, m).numerator, Fraction(n, m).denominator) == (n, m)
            self.assertIs(is_complex(((n, m), (0, 1))), reduced)
            self.assertIs(is_complex(((0, 1), (n, m))), reduced)


class Reckoning(unittest.TestCase):
    def test_sums(self):
        for one, other in product(SMALL, SMALL):
            a, b = plain(one), plain(other)
            self.assertEqual(complex_sum(one, other), told((a[0] + b[0], a[1] + b[1])))

    def test_products(self):
        for one, other in product(SMALL, SMALL):
            self.assertEqual(complex_product(one, other), told(oracle.times(plain(one), plain(other))))

    def test_conjugates(self):
        for number in SMALL:
            a, b = plain(number)
            self.assertEqual(conjugate(number), told((a, -b)))

    def test_size_squares(self):
        for number in SMALL:
            a, b = plain(number)
            self.assertEqual(size_square(number), oracle.pair(a * a + b * b))

    def test_the_size_square_of_a_product(self):
        for one, other in product(SMALL, SMALL):
            sizes = complex_product((size_square(one), (0, 1)), (size_square(other), (0, 1)))
            self.assertEqual((size_square(complex_product(one, other)), (0, 1)), sizes)

    def test_nothing_is_left_to_reduce(self):
        half, less_half = real(1, 2), real(-1, 2)
        self.assertEqual(complex_sum(half, half), ONE)
        self.assertEqual(complex_sum(half, less_half), NIL)
        self.assertEqual(complex_product(half, real(2)), ONE)
        self.assertEqual(complex_product(((2, 3), (1, 1)), ((3, 2), (0, 1))), ((1, 1), (3, 2)))
        self.assertEqual(complex_sum(((1, 6), (1, 1)), ((1, 3), (-1, 1))), ((1, 2), (0, 1)))

    def test_i(self):
        self.assertEqual(complex_product(I, I), LESS)
        self.assertEqual(conjugate(NIL), NIL)

    def test_numbers_of_any_size(self):
        big = ((HUGE, HUGE - 1), (1, HUGE))
        square = complex_product(big, big)
        for _ in range(3):
            square = complex_product(square, conjugate(square))
        self.assertTrue(is_complex(square))
        self.assertEqual(square[1], (0, 1))
        self.assertEqual(complex_sum(square, complex_product(square, LESS)), NIL)
        self.assertEqual(size_square(real(HUGE)), (HUGE * HUGE, 1))

    def test_by_name(self):
        self.assertEqual(complex_sum(other=ONE, number=I), ((1, 1), (1, 1)))
        self.assertEqual(complex_product(number=I, other=I), LESS)
        self.assertEqual((conjugate(number=I), size_square(number=I), is_complex(value=I)), (((0, 1), (-1, 1)), (1, 1), True))
