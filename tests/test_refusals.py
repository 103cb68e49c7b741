"""Points 3, 4 and 5: which values are refused, with which error, in which order."""

import inspect
import unittest
from itertools import combinations

from helpers import (ARCS, COMPLEXES, FRACTIONS, HUGE, LAGS, NO_ARCS, NO_COMPLEXES, NO_COUNTS, NO_FRACTIONS, NO_LAGS,
                     NO_PARTS, NO_SIGNS, NO_TURNS, TURNS)
from mastrows import complexes, errors, patterns, turns

# for each sort of argument: the error, values that are refused, and values that are not
SORTS = {
    "complex": (errors.InvalidComplex, NO_COMPLEXES, COMPLEXES),
    "turn": (errors.InvalidTurn, NO_TURNS, TURNS[-3:] + TURNS[:5]),
    "arc": (errors.InvalidArc, NO_ARCS, ARCS[:-1]),
    "lags": (errors.InvalidLags, NO_LAGS, LAGS[:8]),
    "fraction": (errors.InvalidFraction, NO_FRACTIONS, FRACTIONS),
    "sign": (errors.InvalidSign, NO_SIGNS, [1, -1]),
    "parts": (errors.InvalidNumber, NO_PARTS, [1, 1000000, 2, 999999]),
    "count": (errors.InvalidNumber, NO_COUNTS, [0, 60, -60, 1, -1, 59, -59]),
}
FUNCTIONS = [
    (complexes.complex_sum, [("number", "complex"), ("other", "complex")]),
    (complexes.complex_product, [("number", "complex"), ("other", "complex")]),
    (complexes.conjugate, [("number", "complex")]),
    (complexes.size_square, [("number", "complex")]),
    (turns.point_of, [("turn", "turn")]),
    (turns.turn_of, [("number", "complex")]),
    (turns.joined_turns, [("turn", "turn"), ("other", "turn")]),
    (turns.back_turn, [("turn", "turn")]),
    (turns.turn_times, [("turn", "turn"), ("count", "count")]),
    (turns.is_on, [("arc", "arc"), ("turn", "turn")]),
    (turns.turned_arc, [("arc", "arc"), ("turn", "turn")]),
    (patterns.pattern_at, [("lags", "lags"), ("turn", "turn")]),
    (patterns.signs_on, [("lags", "lags"), ("arc", "arc")]),
    (patterns.zeros_on, [("lags", "lags"), ("arc", "arc")]),
    (patterns.turn_with, [("lags", "lags"), ("arc", "arc"), ("sign", "sign")]),
    (patterns.greatest_floor, [("lags", "lags"), ("arc", "arc"), ("parts", "parts")]),
    (patterns.least_floor, [("lags", "lags"), ("arc", "arc"), ("parts", "parts")]),
    (patterns.peaks_of, [("lags", "lags")]),
    (patterns.slope_lags, [("lags", "lags")]),
    (patterns.lags_times, [("lags", "lags"), ("fraction", "fraction")]),
    (patterns.turned_lags, [("lags", "lags"), ("turn", "turn")]),
    (patterns.lags_sum, [("lags", "lags"), ("other", "lags")]),
]
TELLERS = [complexes.is_complex, turns.is_turn, turns.is_arc, patterns.is_lags]


def fair(parameters):
    """Arguments of which none is refused; those of `turn_of` are on the circle."""
    return [{"complex": ((3, 5), (-4, 5))}.get(sort, SORTS[sort][2][0]) for _, sort in parameters]


class Refusals(unittest.TestCase):
    def refused(self, function, arguments, error, given):
        with self.assertRaises(errors.MastError) as caught:
            function(*arguments)
        self.assertIs(caught.exception.__class__, error)
        self.assertIs(caught.exception.given, given)

    def test_each_argument_wrong_by_itself(self):
        for function, parameters in FUNCTIONS:
            for k, (_, sort) in enumerate(parameters):
                error, wrong, _ = SORTS[sort]
                for j, value in enumerate(wrong):
                    with self.subTest(function.__name__, k=k, j=j):
                        arguments = fair(parameters)
                        arguments[k] = value
                        self.refused(function, arguments, error, value)

    def test_of_two_wrong_ones_the_first(self):
        for function, parameters in FUNCTIONS:
            for first, second in combinations(range(len(parameters)), 2):
                error, wrong, _ = SORTS[parameters[first][1]]
                for j, value in enumerate(wrong):
                    with self.subTest(function.__name__, first=first, second=second, j=j):
                        arguments = fair(parameters)
                        others = SORTS[parameters[second][1]][1]
                        arguments[first], arguments[second] = value, others[(3 * j + 1) % len(others)]
                        self.refused(function, arguments, error, value)

    def test_all_wrong(self):
        for function, parameters in FUNCTIONS:
            values = [object() for _ in parameters]
            self.refused(function, values, SORTS[parameters[0][1]][0], values[0])

    def test_by_name_in_any_order(self):
        for function, parameters in FUNCTIONS:
            for k, (name, sort) in enumerate(parameters):
                arguments = dict(zip([name for name, _ in parameters][::-1], fair(parameters)[::-1]))
                self.assertEqual(function(**arguments), function(*fair(parameters)))
                value = [object()]
                arguments[name] = value
                with self.assertRaises(SORTS[sort][0]) as caught:
                    function(**arguments)
                self.assertIs(caught.exception.given, value, function.__name__)

    def test_the_circle_is_asked_for_last(self):
        for value in NO_COMPLEXES:
            self.refused(turns.turn_of, [value], errors.InvalidComplex, value)
        value = ((HUGE, 1), (0, 1))
        self.refused(turns.turn_of, [value], errors.NotOnCircle, value)

    def test_what_is_not_refused(self):
        for function, parameters in FUNCTIONS:
            for k, (_, sort) in enumerate(parameters):
                for value in SORTS[sort][2]:
                    arguments = fair(parameters)
                    arguments[k] = value
                    if function is not turns.turn_of:
                        function(*arguments)


class Interface(unittest.TestCase):
    def test_names_of_parameters(self):
        for function, parameters in FUNCTIONS:
            self.assertEqual(list(inspect.signature(function).parameters), [name for name, _ in parameters])
        for function in TELLERS:
            self.assertEqual(list(inspect.signature(function).parameters), ["value"])

    def test_all_are_defined_in_their_files(self):
        for module in (complexes, turns, patterns):
            own = [function for function, _ in FUNCTIONS if function.__module__ == module.__name__]
            for function in own:
                self.assertIs(getattr(module, function.__name__), function)
        self.assertEqual([function.__module__ for function in TELLERS],
                         ["mastrows.complexes", "mastrows.turns", "mastrows.turns", "mastrows.patterns"])

    def test_equal_calls_return_equal_results(self):
        for function, parameters in FUNCTIONS:
            self.assertEqual(function(*fair(parameters)), function(*fair(parameters)))

    def test_tellers_by_position_and_by_name(self):
        for function in TELLERS:
            for value in (None, "half", "all", (0, 1), ((0, 1), (1, 1)), (((0, 1), (0, 1)),)):
                self.assertIs(function(value), function(value=value))
