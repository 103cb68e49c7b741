"""The examples of the document for these modules, word for word.

>>> from mastrows.complexes import complex_product, complex_sum, conjugate, is_complex, size_square
>>> from mastrows.turns import back_turn, is_arc, is_on, is_turn, joined_turns, point_of, turn_of, turn_times, turned_arc
>>> nil, one, i, less = ((0, 1), (0, 1)), ((1, 1), (0, 1)), ((0, 1), (1, 1)), ((-1, 1), (0, 1))
>>> [complex_product(i, i) == less, complex_sum(one, i), conjugate(i), size_square(((1, 2), (1, 1))), is_complex((1, 1)), is_complex(((2, 4), (0, 1)))]
[True, ((1, 1), (1, 1)), ((0, 1), (-1, 1)), (5, 4), False, False]
>>> [point_of((1, 1)) == i, point_of("half") == less, turn_of(((3, 5), (4, 5))), joined_turns((1, 1), (1, 1)), joined_turns("half", (1, 2)), back_turn((1, 2)), turn_times((1, 2), 2), turn_times((1, 1), -2)]
[True, True, (1, 2), 'half', (-2, 1), (-1, 2), (4, 3), 'half']
>>> [is_turn(None), is_arc(((1, 1), (1, 1))), is_on(((1, 1), (-1, 1)), "half"), is_on(((-1, 1), (1, 1)), "half"), turned_arc(((0, 1), (1, 1)), (1, 1)), turned_arc("all", (1, 1))]
[False, False, True, False, ((1, 1), 'half'), 'all']

>>> from mastrows.patterns import greatest_floor, is_lags, lags_sum, least_floor, pattern_at, peaks_of, signs_on, slope_lags, turn_with, turned_lags, zeros_on
>>> wave, two = (((2, 1), (0, 1)), one), ((2, 1), (0, 1))
>>> [pattern_at(wave, (1, 1)), pattern_at(wave, "half"), signs_on(wave, "all"), signs_on(wave, ((0, 1), (1, 1))), signs_on((one, one), "all"), zeros_on(wave, "all"), zeros_on((nil,), "all")]
[(2, 1), (0, 1), (0, 1), (1,), (-1, 0, 1, 0, -1), 1, 'endless']
>>> [turn_with(wave, "all", -1), greatest_floor(wave, "all", 10), least_floor(wave, ((0, 1), (1, 1)), 10), peaks_of(wave), peaks_of((two,)), slope_lags(wave) == (nil, i), turned_lags(wave, (1, 1)) == (two, conjugate(i)), lags_sum(wave, (two,)), is_lags((i,))]
[None, 40, 20, 1, 0, True, True, (((4, 1), (0, 1)), ((1, 1), (0, 1))), False]
"""

import doctest
import sys
import unittest


class Examples(unittest.TestCase):
    def test_word_for_word(self):
        results = doctest.testmod(sys.modules[__name__])
        self.assertEqual(results.failed, 0)
        self.assertEqual(results.attempted, 10)
