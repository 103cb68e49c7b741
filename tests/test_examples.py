"""The examples of the document, word for word.

>>> from mastrows.complexes import complex_product, complex_sum, conjugate, is_complex, size_square
>>> from mastrows.turns import back_turn, is_arc, is_on, is_turn, joined_turns, point_of, turn_of, turn_times, turned_arc
>>> nil, one, i, less = ((0, 1), (0, 1)), ((1, 1), (0, 1)), ((0, 1), (1, 1)), ((-1, 1), (0, 1))
>>> [complex_product(i, i) == less, complex_sum(one, i), conjugate(i), size_square(((1, 2), (1, 1))), is_complex((1, 1)), is_complex(((2, 4), (0, 1)))]
[True, ((1, 1), (1, 1)), ((0, 1), (-1, 1)), (5, 4), False, False]
>>> [point_of((1, 1)) == i, point_of("half") == less, turn_of(((3, 5), (4, 5))), joined_turns((1, 1), (1, 1)), joined_turns("half", (1, 2)), back_turn((1, 2)), turn_times((1, 2), 2), turn_times((1, 1), -2)]
[True, True, (1, 2), 'half', (-2, 1), (-1, 2), (4, 3), 'half']
>>> [is_turn(None), is_arc(((1, 1), (1, 1))), is_on(((1, 1), (-1, 1)), "half"), is_on(((-1, 1), (1, 1)), "half"), turned_arc(((0, 1), (1, 1)), (1, 1)), turned_arc("all", (1, 1))]
[False, False, True, False, ((1, 1), 'half'), 'all']

>>> from mastrows.patterns import greatest_floor, is_lags, lags_sum, least_floor, pattern_at, peaks_of, signs_on, slope_lags, turn_with, turned_lags, zeros_on
>>> wave, two = (((2, 1), (0, 1)), one), ((2, 1), (0, 1))
>>> [pattern_at(wave, (1, 1)), pattern_at(wave, "half"), signs_on(wave, "all"), signs_on(wave, ((0, 1), (1, 1))), signs_on((one, one), "all"), zeros_on(wave, "all"), zeros_on((nil,), "all")]
[(2, 1), (0, 1), (0, 1), (1,), (-1, 0, 1, 0, -1), 1, 'endless']
>>> [turn_with(wave, "all", -1), greatest_floor(wave, "all", 10), least_floor(wave, ((0, 1), (1, 1)), 10), peaks_of(wave), peaks_of((two,)), slope_lags(wave) == (nil, i), turned_lags(wave, (1, 1)) == (two, conjugate(i)), lags_sum(wave, (two,)), is_lags((i,))]
[None, 40, 20, 1, 0, True, True, (((4, 1), (0, 1)), ((1, 1), (0, 1))), False]
>>> from mastrows.rows import lags_of, lobes_of, mean_power, more_at, never_more, nulls_on, power_at, sent
>>> pair, triple = (one, one), (one, one, one)
>>> [lags_of(pair) == wave, lags_of(triple), sent(triple, (1, 1)) == i, power_at(triple, (1, 1)), nulls_on(triple, "all"), nulls_on(pair, ((0, 1), (1, 1))), lobes_of(triple), mean_power(triple)]
[True, (((3, 1), (0, 1)), ((2, 1), (0, 1)), ((1, 1), (0, 1))), True, (1, 1), 2, 0, 2, (3, 1)]
>>> [never_more(pair, triple, ((0, 1), (1, 2))), never_more(pair, triple, "all"), more_at(pair, triple, ((0, 1), (1, 2)))]
[True, False, None]
>>> from mastrows.likes import like_parts, parting_turn, rows_of_power, same_power, trimmed
>>> steep, flat = (two, one), (nil, one, two)
>>> [same_power(steep, flat), same_power(steep, pair), parting_turn(steep, flat), trimmed(flat) == (one, two), rows_of_power(lags_of(steep)), rows_of_power(wave), rows_of_power((one, one)), like_parts(steep, pair)]
[True, False, None, True, 2, 1, 0, None]
>>> from mastrows.wishes import dark_turn, is_wished, least_raise, rows_for
>>> [is_wished(wave), is_wished((one, one)), dark_turn(wave), rows_for((one, one)), rows_for((nil,)), least_raise((one, one), 10), least_raise(wave, 10)]
[True, False, None, None, (), 10, 0]

>>> from mastrows.makers import back_row, binomial_row, even_row, fed, joined_rows, mirrored, row_of_rows, spread, steered
>>> nought, one, two, turned = ((0, 1), (0, 1)), ((1, 1), (0, 1)), ((2, 1), (0, 1)), ((0, 1), (1, 1))
>>> even_row(2) == (one, one), binomial_row(3) == (one, two, one), joined_rows(even_row(2), even_row(2)) == binomial_row(3)
(True, True, True)
>>> steered(even_row(2), (1, 1)), steered(even_row(2), "half")
((((1, 1), (0, 1)), ((0, 1), (-1, 1))), (((1, 1), (0, 1)), ((-1, 1), (0, 1))))
>>> mirrored((one, turned)), back_row((one, two)) == (two, one), fed(even_row(1), turned)
((((0, 1), (-1, 1)), ((1, 1), (0, 1))), True, (((0, 1), (1, 1)),))
>>> spread(even_row(2), 2) == (one, nought, one), row_of_rows(even_row(2), even_row(2)) == even_row(4)
(True, True)

>>> from mastrows.slacks import may_be_silent, slack_floor, surely_above, surely_below, surely_no_more
>>> lone, bow = (one,), ((0, 1), (1, 1))
>>> quarters, tenths = ((1, 4), (1, 4)), ((1, 10), (1, 10))
>>> [surely_below(pair, quarters, bow, (5, 2)), surely_below(pair, quarters, bow, (2, 1)), surely_above(pair, quarters, bow, (0, 1)), surely_above(pair, quarters, bow, (1, 1)), surely_below(pair, quarters, bow, (1, 4))]
[True, False, True, False, False]
>>> [may_be_silent(pair, quarters, "half"), may_be_silent(pair, quarters, (0, 1)), slack_floor(pair, bow, (3, 1), 10), slack_floor(pair, bow, (1, 1), 10), surely_no_more(lone, ((1, 10),), pair, tenths, bow), surely_no_more(lone, ((1, 5),), pair, ((1, 5), (1, 5)), bow)]
[True, False, 5, None, True, False]

>>> from mastrows.silences import stays_below, without, worst_silence
>>> near = ((-1, 3), (1, 3))
>>> [without(triple, (1,)), without(pair, (0, 1)) == (nil, nil), stays_below(triple, 1, "all", (4, 1)), worst_silence(triple, 0, "all", (8, 1)), worst_silence(triple, 1, "all", (3, 1))]
[(((1, 1), (0, 1)), ((0, 1), (0, 1)), ((1, 1), (0, 1))), True, True, (), (0,)]
>>> [stays_below((one, less), 0, near, (1, 2)), worst_silence((one, less), 1, near, (1, 2)), worst_silence((one, less), 2, near, (1, 2)), worst_silence((two, less), 1, near, (1, 1))]
[True, (0,), None, (1,)]

>>> from mastrows.bearings import folding_turns, reading_at, tells_turn, turn_floor, turn_side, word_of_reading
>>> [reading_at(lone, pair, (1, 1)), tells_turn(lone, pair, bow), tells_turn(lone, pair, near), word_of_reading(lone, pair, near), word_of_reading(lone, pair, "all"), word_of_reading(lone, lone, near), folding_turns(lone, pair, bow), folding_turns(lone, lone, near)]
[(2, 1), True, False, 'folds', 'folds', 'same', None, None]
>>> [turn_side(lone, pair, bow, (3, 1), (1, 2)), turn_side(lone, pair, bow, (2, 1), (1, 1)), turn_side(lone, pair, bow, (1, 1), (1, 2)), turn_side(lone, pair, near, (4, 1), (0, 1)), turn_floor(lone, pair, bow, (3, 1), 10)]
[1, 0, None, None, 5]

>>> from mastrows.points import back_wave, gain, least_hearing, multipliers, noise_of, row_through
>>> half = ((1, 2), (0, 1))
>>> noise_of(binomial_row(3)), gain(binomial_row(3), (0, 1)), gain(even_row(3), (0, 1)), gain(even_row(2), "half")
((6, 1), (8, 3), (3, 1), (0, 1))
>>> row_through(2, (((0, 1), one),)) == (half, half), multipliers(2, (((0, 1), one), ("half", nought))) == (half, nought)
(True, True)
>>> row_through(1, (((0, 1), one), ("half", nought))), row_through(2, (((0, 1), nought),)), back_wave(2, (1, 1)) == steered(even_row(2), (1, 1))
(None, None, True)
>>> least_hearing((two, one), (0, 1)) == (half, half), least_hearing((two, one), "half")
(True, (((1, 2), (0, 1)), ((-1, 2), (0, 1))))

>>> from mastrows.lobes import can_be_below, edge_floor, least_lobe, lobe_row
>>> least_lobe(1, (1, 1)), least_lobe(2, (1, 1)), least_lobe(3, (1, 1)), least_lobe(3, (3, 4))
((1, 1), (1, 2), (1, 9), (64, 289))
>>> lobe_row(2, (1, 1)) == (half, half), lobe_row(3, (3, 4))
(True, (((25, 68), (0, 1)), ((9, 34), (0, 1)), ((25, 68), (0, 1))))
>>> can_be_below(3, (1, 1), (1, 9)), can_be_below(3, (1, 1), (1, 10)), edge_floor(3, (1, 9), 4), edge_floor(2, (1, 3), 10), edge_floor(1, (1, 2), 1)
(True, False, 4, 14, None)

>>> from mastrows.patterns import lags_sum
>>> from mastrows.tables import barring_row, comes_of_waves, heard, most_from, silent_row, wave_lags, wave_rank, waves_on
>>> side = wave_lags((2, 1), (1, 1), 3)
>>> mix = lags_sum(side, wave_lags((1, 1), (0, 1), 3))
>>> [side, mix, heard(mix, pair)]
[(((2, 1), (0, 1)), ((0, 1), (2, 1)), ((-2, 1), (0, 1))), (((3, 1), (0, 1)), ((1, 1), (2, 1)), ((-1, 1), (0, 1))), (8, 1)]
>>> [comes_of_waves(mix), wave_rank(mix), silent_row(mix), waves_on(mix, ((1, 2), (2, 1))), waves_on(mix, "all")]
[True, 2, (((0, 1), (1, 1)), ((-1, 1), (-1, 1)), ((1, 1), (0, 1))), 1, 2]
>>> full, far = (two, one), (one, two)
>>> [most_from(mix, (1, 1)), most_from(mix, (0, 1)), most_from(mix, "half"), most_from(full, (0, 1)), most_from(full, "half"), wave_rank(full), silent_row(full), comes_of_waves(far), barring_row(mix), heard(far, (((-2, 1), (0, 1)), one)), wave_rank((nil, nil)), silent_row((nil, nil))]
[(2, 1), (1, 1), (0, 1), (3, 2), (1, 2), 2, None, False, None, (-3, 1), 0, (((1, 1), (0, 1)),)]

>>> from mastrows.nexts import guess_error, guess_row, lags_from, mirrors_of, next_disc
>>> [next_disc(full), next_disc(mix), next_disc((one,)), mirrors_of(full), guess_row(full), guess_error(full), lags_from((2, 1), (((1, 2), (0, 1)),)) == full]
[(((1, 2), (0, 1)), (3, 2)), (((1, 1), (-2, 1)), (0, 1)), (((0, 1), (0, 1)), (1, 1)), (((1, 2), (0, 1)),), (((-1, 2), (0, 1)), ((1, 1), (0, 1))), (3, 2), True]

>>> from mastrows.loops import dies_away, is_quickest, loop_run, zeros_split
>>> half = (((-1, 2), (0, 1)), one)
>>> [zeros_split(half), zeros_split(pair), zeros_split((one, nil, ((-4, 1), (0, 1)))), zeros_split(flat), zeros_split(lone)]
[(1, 0, 0), (0, 1, 0), (2, 0, 0), (2, 0, 0), (0, 0, 0)]
>>> [dies_away(half), dies_away(steep), dies_away(pair), is_quickest(half), is_quickest(steep), is_quickest(pair), loop_run(steep, (((8, 1), (0, 1)),), 3)]
[False, True, False, False, True, True, (((-4, 1), (0, 1)), ((2, 1), (0, 1)), ((-1, 1), (0, 1)))]
"""

import doctest
import sys
import unittest

from mastrows.errors import InvalidRow, NotAbove
from mastrows.loops import dies_away
from mastrows.nexts import next_disc


class Examples(unittest.TestCase):
    def test_word_for_word(self):
        results = doctest.testmod(sys.modules[__name__])
        self.assertEqual(results.failed, 0)
        self.assertEqual(results.attempted, 61)

    def test_what_raises(self):
        one, two = ((1, 1), (0, 1)), ((2, 1), (0, 1))
        with self.assertRaises(NotAbove):
            next_disc((one, two))
        with self.assertRaises(InvalidRow) as caught:
            dies_away((((0, 1), (0, 1)), one, two))
        self.assertEqual(caught.exception.given, (((0, 1), (0, 1)), ((1, 1), (0, 1)), ((2, 1), (0, 1))))
