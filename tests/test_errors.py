"""The classes of errors: their bases and attributes."""

import copy
import unittest

from helpers import HUGE, Touchy
from mastrows import errors

WITH_GIVEN = ["InvalidFraction", "InvalidAmount", "InvalidContent", "InvalidNumber", "InvalidIndex", "InvalidSign",
              "InvalidComplex", "NotOnCircle", "InvalidTurn", "InvalidArc", "InvalidLags", "InvalidRow", "InvalidName",
              "InvalidDemand", "InvalidPhrase", "UnknownName", "NotAWorkshop"]
WITH_INDEX = ["InvalidSlacks", "InvalidIndexes", "InvalidPoints", "InvalidMirrors", "InvalidBeginning", "InUse",
              "Broken"]
BARE = ["TooManyMasts", "NotAbove", "Silent", "NoRow", "NothingToUndo"]


class Bases(unittest.TestCase):
    def test_the_base_stands_under_value_error_alone(self):
        self.assertEqual(errors.MastError.__bases__, (ValueError,))

    def test_all_others_stand_under_it_alone(self):
        for name in WITH_GIVEN + WITH_INDEX + BARE:
            with self.subTest(name):
                self.assertEqual(getattr(errors, name).__bases__, (errors.MastError,))

    def test_there_are_no_others(self):
        found = {name for name, value in vars(errors).items() if isinstance(value, type)}
        self.assertEqual(found, set(WITH_GIVEN + WITH_INDEX + BARE + ["MastError"]))

    def test_all_are_defined_there(self):
        for name in WITH_GIVEN + WITH_INDEX + BARE + ["MastError"]:
            self.assertEqual(getattr(errors, name).__module__, "mastrows.errors")


class Attributes(unittest.TestCase):
    def kept(self, names, attribute):
        for name in names:
            for value in (None, 0, "x", (1, 2), [3], HUGE, (HUGE, -1), Touchy(), object()):
                with self.subTest(name):
                    made = getattr(errors, name)
                    self.assertIs(getattr(made(value), attribute), value)
                    self.assertIs(getattr(made(**{attribute: value}), attribute), value)

    def test_given(self):
        self.kept(WITH_GIVEN, "given")

    def test_index(self):
        self.kept(WITH_INDEX, "index")

    def test_the_attribute_is_needed(self):
        for name in WITH_GIVEN + WITH_INDEX:
            with self.assertRaises(TypeError):
                getattr(errors, name)()

    def test_none_without_attributes(self):
        for name in BARE + ["MastError"]:
            error = getattr(errors, name)()
            self.assertEqual(vars(error), {})

    def test_only_the_one(self):
        for name in WITH_GIVEN:
            self.assertEqual(list(vars(getattr(errors, name)(1))), ["given"])
        for name in WITH_INDEX:
            self.assertEqual(list(vars(getattr(errors, name)(1))), ["index"])

    def test_texts_are_there_for_values_of_any_size(self):
        for name in WITH_GIVEN + WITH_INDEX:
            for value in (HUGE, (HUGE, HUGE), Touchy()):
                self.assertIsInstance(str(getattr(errors, name)(value)), str)

    def test_an_error_is_equal_to_itself_alone(self):
        one, other = errors.InvalidTurn(1), errors.InvalidTurn(1)
        self.assertTrue(one == one and one != other and not one == Touchy and bool(one))

    def test_a_copy_keeps_the_attribute(self):
        self.assertEqual(copy.copy(errors.Broken(index=4)).index, 4)
