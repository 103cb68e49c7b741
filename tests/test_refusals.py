"""Points 3, 4 and 5: which values are refused, with which error, in which order."""

import inspect
import unittest
from itertools import combinations

from helpers import (AMOUNTS, ARCS, BEGINNINGS, COMPLEXES, CONTENTS, EIGHT, FRACTIONS, HUGE, INDEXES, LAGS, LESS, LOOPS, LOUD,
                     MIRRORS, NIL, NO_AMOUNTS, NO_ARCS, NO_BEGINNINGS, NO_COMPLEXES, NO_CONTENTS, NO_COUNTS, NO_FEEDS,
                     NO_FRACTIONS, NO_INDEXES, NO_LAGS, NO_LOOPS, NO_MANY, NO_MIRRORS, NO_PARTS, NO_PLAIN_ARCS,
                     NO_POINTS, NO_ROWS, NO_RUNS, NO_SIGNS, NO_SILENT, NO_SLACKS, NO_STEPS, NO_TURNS, ONE, PLAIN_ARCS,
                     POINTS, ROWS, SLACKS, TURNS, real)
from mastrows import (bearings, certificates, complexes, errors, likes, lobes, loops, makers, nexts, patterns, points, rows,
                      silences, slacks, tables, turns, wishes)


def plain(values):
    """Wrong values, each of them told as `given`."""
    return [(value, value) for value in values]


# for each sort of argument: the error, values that are refused with what is told, and values that are not
SORTS = {
    "complex": (errors.InvalidComplex, plain(NO_COMPLEXES), [((3, 5), (-4, 5))] + COMPLEXES),
    "feed": (errors.InvalidComplex, plain(NO_FEEDS), COMPLEXES[1:]),
    "turn": (errors.InvalidTurn, plain(NO_TURNS), TURNS[-3:] + TURNS[:5]),
    "arc": (errors.InvalidArc, plain(NO_ARCS), ARCS[:-1]),
    "plain arc": (errors.InvalidArc, plain(NO_PLAIN_ARCS), PLAIN_ARCS),
    "lags": (errors.InvalidLags, plain(NO_LAGS), LAGS[:8]),
    "fraction": (errors.InvalidFraction, plain(NO_FRACTIONS), FRACTIONS),
    "content": (errors.InvalidContent, plain(NO_CONTENTS), CONTENTS),
    "sign": (errors.InvalidSign, plain(NO_SIGNS), [1, -1]),
    "parts": (errors.InvalidNumber, plain(NO_PARTS), [1, 1000000, 2, 999999]),
    "count": (errors.InvalidNumber, plain(NO_COUNTS), [0, 60, -60, 1, -1, 59, -59]),
    "many": (errors.InvalidNumber, plain(NO_MANY), [1, 2, 8, 7]),
    "step": (errors.InvalidNumber, plain(NO_STEPS), [1, 2, 7]),
    "silent": (errors.InvalidNumber, plain(NO_SILENT), [0, 1, 2]),
    "row": (errors.InvalidRow, plain(NO_ROWS), ROWS),
    "short row": (errors.InvalidRow, plain(NO_ROWS), LOUD),
    "slacks": (errors.InvalidSlacks, NO_SLACKS, SLACKS),
    "indexes": (errors.InvalidIndexes, NO_INDEXES, INDEXES),
    "points": (errors.InvalidPoints, NO_POINTS, POINTS),
    "amount": (errors.InvalidAmount, plain(NO_AMOUNTS), AMOUNTS),
    "mirrors": (errors.InvalidMirrors, NO_MIRRORS, MIRRORS),
    "loop": (errors.InvalidRow, plain(NO_LOOPS), LOOPS),
    "beginning": (errors.InvalidBeginning, NO_BEGINNINGS, BEGINNINGS),
    "run": (errors.InvalidNumber, plain(NO_RUNS), [3, 0, 1, 2, 59, 60]),
}
BOTH = [("row", "short row"), ("other", "short row")]
LOOSE = [("row", "short row"), ("slacks", "slacks")]
STILL = [("row", "row"), ("count", "silent"), ("arc", "arc"), ("level", "content")]
FUNCTIONS = [
    (complexes.complex_sum, [("number", "complex"), ("other", "complex")]),
    (complexes.complex_product, [("number", "complex"), ("other", "complex")]),
    (complexes.conjugate, [("number", "complex")]),
    (complexes.size_square, [("number", "complex")]),
    (turns.point_of, [("turn", "turn")]),
    (turns.turn_of, [("number", "complex")]),
    (turns.joined_turns, [("turn", "turn"), ("other", "turn")]),
    (turns.back_turn, [("turn", "turn")]),
    (turns.turn_times, [("turn", "turn"), ("count", "count")]),
    (turns.is_on, [("arc", "arc"), ("turn", "turn")]),
    (turns.turned_arc, [("arc", "arc"), ("turn", "turn")]),
    (patterns.pattern_at, [("lags", "lags"), ("turn", "turn")]),
    (patterns.signs_on, [("lags", "lags"), ("arc", "arc")]),
    (patterns.zeros_on, [("lags", "lags"), ("arc", "arc")]),
    (patterns.turn_with, [("lags", "lags"), ("arc", "arc"), ("sign", "sign")]),
    (patterns.greatest_floor, [("lags", "lags"), ("arc", "arc"), ("parts", "parts")]),
    (patterns.least_floor, [("lags", "lags"), ("arc", "arc"), ("parts", "parts")]),
    (patterns.peaks_of, [("lags", "lags")]),
    (patterns.slope_lags, [("lags", "lags")]),
    (patterns.lags_times, [("lags", "lags"), ("fraction", "fraction")]),
    (patterns.turned_lags, [("lags", "lags"), ("turn", "turn")]),
    (patterns.lags_sum, [("lags", "lags"), ("other", "lags")]),
    (rows.sent, [("row", "row"), ("turn", "turn")]),
    (rows.power_at, [("row", "row"), ("turn", "turn")]),
    (rows.mean_power, [("row", "row")]),
    (rows.lags_of, [("row", "row")]),
    (rows.is_null, [("row", "row"), ("turn", "turn")]),
    (rows.nulls_on, [("row", "row"), ("arc", "arc")]),
    (rows.lobes_of, [("row", "row")]),
    (rows.never_more, [("row", "row"), ("other", "row"), ("arc", "arc")]),
    (rows.more_at, [("row", "row"), ("other", "row"), ("arc", "arc")]),
    (likes.trimmed, [("row", "row")]),
    (likes.same_power, [("row", "row"), ("other", "row")]),
    (likes.parting_turn, [("row", "row"), ("other", "row")]),
    (likes.like_parts, [("row", "row"), ("other", "row")]),
    (likes.rows_of_power, [("lags", "lags")]),
    (wishes.is_wished, [("lags", "lags")]),
    (wishes.rows_for, [("lags", "lags")]),
    (wishes.dark_turn, [("lags", "lags")]),
    (wishes.least_raise, [("lags", "lags"), ("parts", "parts")]),
    (makers.even_row, [("many", "many")]),
    (makers.binomial_row, [("many", "many")]),
    (makers.steered, [("row", "row"), ("turn", "turn")]),
    (makers.mirrored, [("row", "row")]),
    (makers.back_row, [("row", "row")]),
    (makers.fed, [("row", "row"), ("number", "feed")]),
    (makers.joined_rows, BOTH),
    (makers.spread, [("row", "short row"), ("step", "step")]),
    (makers.row_of_rows, BOTH),
    (slacks.surely_below, LOOSE + [("arc", "arc"), ("level", "content")]),
    (slacks.surely_above, LOOSE + [("arc", "arc"), ("level", "content")]),
    (slacks.may_be_silent, LOOSE + [("turn", "turn")]),
    (slacks.silent_errors, LOOSE + [("turn", "turn")]),
    (slacks.surely_no_more, LOOSE + [("other", "short row"), ("others", "slacks"), ("arc", "arc")]),
    (slacks.slack_floor, [("row", "row"), ("arc", "arc"), ("level", "content"), ("parts", "parts")]),
    (silences.without, [("row", "short row"), ("indexes", "indexes")]),
    (silences.stays_below, STILL),
    (silences.worst_silence, STILL),
    (bearings.reading_at, BOTH + [("turn", "turn")]),
    (bearings.tells_turn, BOTH + [("arc", "arc")]),
    (bearings.word_of_reading, BOTH + [("arc", "arc")]),
    (bearings.folding_turns, BOTH + [("arc", "arc")]),
    (bearings.turn_side, BOTH + [("arc", "arc"), ("reading", "content"), ("turn", "turn")]),
    (bearings.turn_floor, BOTH + [("arc", "plain arc"), ("reading", "content"), ("parts", "parts")]),
    (points.noise_of, [("row", "row")]),
    (points.gain, [("row", "row"), ("turn", "turn")]),
    (points.back_wave, [("many", "many"), ("turn", "turn")]),
    (points.row_through, [("many", "many"), ("points", "points")]),
    (points.multipliers, [("many", "many"), ("points", "points")]),
    (points.least_hearing, [("lags", "lags"), ("turn", "turn")]),
    (lobes.least_lobe, [("many", "many"), ("edge", "amount")]),
    (lobes.lobe_row, [("many", "many"), ("edge", "amount")]),
    (lobes.can_be_below, [("many", "many"), ("edge", "amount"), ("level", "content")]),
    (lobes.edge_floor, [("many", "many"), ("level", "content"), ("parts", "parts")]),
    (tables.heard, [("lags", "lags"), ("row", "row")]),
    (tables.comes_of_waves, [("lags", "lags")]),
    (tables.barring_row, [("lags", "lags")]),
    (tables.wave_rank, [("lags", "lags")]),
    (tables.silent_row, [("lags", "lags")]),
    (tables.waves_on, [("lags", "lags"), ("arc", "arc")]),
    (tables.most_from, [("lags", "lags"), ("turn", "turn")]),
    (tables.wave_lags, [("amount", "amount"), ("turn", "turn"), ("many", "many")]),
    (nexts.next_disc, [("lags", "lags")]),
    (nexts.mirrors_of, [("lags", "lags")]),
    (nexts.guess_row, [("lags", "lags")]),
    (nexts.guess_error, [("lags", "lags")]),
    (nexts.lags_from, [("amount", "amount"), ("mirrors", "mirrors")]),
    (loops.zeros_split, [("row", "row")]),
    (loops.dies_away, [("row", "loop")]),
    (loops.is_quickest, [("row", "row")]),
    (loops.loop_run, [("row", "loop"), ("beginning", "beginning"), ("count", "run")]),
    (certificates.certify_power, [("row", "row"), ("other", "row")]),
    (certificates.certify_like, [("row", "row"), ("other", "row")]),
    (certificates.certify_never, [("row", "row"), ("other", "row"), ("arc", "arc")]),
    (certificates.certify_null, [("row", "row"), ("turn", "turn")]),
    (certificates.certify_nulls, [("row", "row"), ("arc", "arc")]),
    (certificates.certify_wish, [("lags", "lags")]),
    (certificates.certify_sure, LOOSE + [("arc", "arc"), ("level", "content")]),
    (certificates.certify_bearing, BOTH + [("arc", "arc")]),
    (certificates.certify_silence, STILL),
    (certificates.certify_waves, [("lags", "lags")]),
    (certificates.certify_rank, [("lags", "lags")]),
    (certificates.certify_best, [("many", "many"), ("points", "points")]),
    (certificates.certify_gain, [("row", "row"), ("turn", "turn")]),
    (certificates.certify_lobe, [("many", "many"), ("edge", "amount")]),
    (certificates.certify_life, [("row", "loop")]),
    (certificates.certify_split, [("row", "row")]),
]
TELLERS = [complexes.is_complex, turns.is_turn, turns.is_arc, patterns.is_lags, rows.is_row]
LASTS = (errors.TooManyMasts, errors.Silent, errors.NotAbove, errors.NoRow)


def fair(parameters):
    """Arguments of which none is refused; those of `turn_of` are on the circle."""
    return [SORTS[sort][2][0] for _, sort in parameters]


def answer(function, *arguments, **named):
    """What is returned, or the error that is told last."""
    try:
        return function(*arguments, **named)
    except LASTS as error:
        return error.__class__


class Refusals(unittest.TestCase):
    def refused(self, function, arguments, error, told):
        with self.assertRaises(errors.MastError) as caught:
            function(*arguments)
        self.assertIs(caught.exception.__class__, error)
        self.assertEqual(len(vars(caught.exception)), 1)
        self.assertIs(list(vars(caught.exception).values())[0], told)

    def test_each_argument_wrong_by_itself(self):
        for function, parameters in FUNCTIONS:
            for k, (_, sort) in enumerate(parameters):
                error, wrong, _ = SORTS[sort]
                for j, (value, told) in enumerate(wrong):
                    with self.subTest(function.__name__, k=k, j=j):
                        arguments = fair(parameters)
                        arguments[k] = value
                        self.refused(function, arguments, error, told)

    def test_of_two_wrong_ones_the_first(self):
        for function, parameters in FUNCTIONS:
            for first, second in combinations(range(len(parameters)), 2):
                error, wrong, _ = SORTS[parameters[first][1]]
                for j, (value, told) in enumerate(wrong):
                    with self.subTest(function.__name__, first=first, second=second, j=j):
                        arguments = fair(parameters)
                        others = SORTS[parameters[second][1]][1]
                        arguments[first], arguments[second] = value, others[(3 * j + 1) % len(others)][0]
                        self.refused(function, arguments, error, told)

    def test_all_wrong(self):
        for function, parameters in FUNCTIONS:
            values = [object() for _ in parameters]
            told = None if parameters[0][1] in ("slacks", "indexes", "points") else values[0]
            self.refused(function, values, SORTS[parameters[0][1]][0], told)

    def test_by_name_in_any_order(self):
        for function, parameters in FUNCTIONS:
            for k, (name, sort) in enumerate(parameters):
                arguments = dict(zip([name for name, _ in parameters][::-1], fair(parameters)[::-1]))
                self.assertEqual(answer(function, **arguments), answer(function, *fair(parameters)))
                arguments[name] = [object()]
                with self.assertRaises(SORTS[sort][0]):
                    function(**arguments)

    def test_the_circle_is_asked_for_last(self):
        for value in NO_COMPLEXES:
            self.refused(turns.turn_of, [value], errors.InvalidComplex, value)
        value = ((HUGE, 1), (0, 1))
        self.refused(turns.turn_of, [value], errors.NotOnCircle, value)

    def test_what_is_told_last(self):
        # each of these calls would raise an error that is told last, were all arguments right
        even, pair, arc = ((ONE,) * 8, (ONE, ONE), ((1, 1), (-1, 1)))
        for function, arguments, sorts in [
                (makers.joined_rows, [even, even], ["row", "row"]),
                (makers.row_of_rows, [even, pair], ["row", "row"]),
                (makers.spread, [even, 2], ["row", "step"]),
                (bearings.reading_at, [pair, pair, "half"], ["row", "row", "turn"]),
                (bearings.tells_turn, [pair, pair, arc], ["row", "row", "arc"]),
                (bearings.word_of_reading, [pair, pair, "all"], ["row", "row", "arc"]),
                (bearings.folding_turns, [pair, even, arc], ["row", "row", "arc"]),
                (bearings.turn_side, [pair, even, arc, (1, 1), "half"], ["row", "row", "arc", "content", "turn"]),
                (bearings.turn_floor, [(ONE, LESS), pair, ((-1, 1), (1, 1)), (1, 1), 9],
                 ["row", "row", "plain arc", "content", "parts"]),
                (points.least_hearing, [(ONE, ONE), (0, 1)], ["lags", "turn"]),
                (tables.heard, [(ONE,), pair], ["lags", "row"]),
                (nexts.next_disc, [(NIL, ONE)], ["lags"]),
                (nexts.mirrors_of, [(NIL, NIL)], ["lags"]),
                (nexts.guess_row, [(ONE, ONE)], ["lags"]),
                (nexts.guess_error, [(real(-1),)], ["lags"]),
                (certificates.certify_bearing, [pair, pair, "all"], ["row", "row", "arc"]),
                (certificates.certify_rank, [(NIL, ONE)], ["lags"]),
                (certificates.certify_best, [1, EIGHT], ["many", "points"])]:
            self.assertIn(answer(function, *arguments), LASTS)
            for k, sort in enumerate(sorts):
                for value, told in SORTS[sort][1][::7]:
                    self.refused(function, arguments[:k] + [value] + arguments[k + 1:], SORTS[sort][0], told)

    def test_what_is_not_refused(self):
        for function, parameters in FUNCTIONS:
            for k, (_, sort) in enumerate(parameters):
                for value in SORTS[sort][2]:
                    arguments = fair(parameters)
                    arguments[k] = value
                    if function is bearings.turn_side and arguments[2] != "all":
                        arguments[4] = arguments[2][0]
                    if function is not turns.turn_of:
                        answer(function, *arguments)


class Interface(unittest.TestCase):
    def test_names_of_parameters(self):
        for function, parameters in FUNCTIONS:
            self.assertEqual(list(inspect.signature(function).parameters), [name for name, _ in parameters])
        for function in TELLERS:
            self.assertEqual(list(inspect.signature(function).parameters), ["value"])

    def test_all_are_defined_in_their_files(self):
        modules = (complexes, turns, patterns, rows, likes, wishes, makers, slacks, silences, bearings, points, lobes,
                   tables, nexts, loops, certificates)
        for module in modules:
            own = [function for function, _ in FUNCTIONS if function.__module__ == module.__name__]
            self.assertTrue(own)
            for function in own:
                self.assertIs(getattr(module, function.__name__), function)
        self.assertEqual([function.__module__ for function in TELLERS],
                         ["mastrows.complexes", "mastrows.turns", "mastrows.turns", "mastrows.patterns",
                          "mastrows.rows"])
        self.assertTrue(all(function.__module__ in [module.__name__ for module in modules] for function, _ in FUNCTIONS))

    def test_equal_calls_return_equal_results(self):
        for function, parameters in FUNCTIONS:
            self.assertEqual(answer(function, *fair(parameters)), answer(function, *fair(parameters)))

    def test_tellers_by_position_and_by_name(self):
        for function in TELLERS:
            for value in (None, "half", "all", (0, 1), ((0, 1), (1, 1)), (((0, 1), (0, 1)),)):
                self.assertIs(function(value), function(value=value))
