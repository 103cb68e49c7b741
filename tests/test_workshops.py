"""Point 33: workshops, beside a plain second one."""

import copy
import inspect
import random
import unittest
from fractions import Fraction

import oracle
from helpers import HALF, HUGE, I, LESS, NIL, NO_COMPLEXES, NO_ROWS, NO_VALUES, ONE, TWO, Touchy, deep, real
from mastrows import errors
from mastrows.errors import (Broken, InUse, InvalidComplex, InvalidDemand, InvalidIndex, InvalidName, InvalidRow,
                             MastError, NothingToUndo, UnknownName)
from mastrows.makers import even_row, fed
from mastrows.workshops import Workshop
from samples import whole

PAIR, TRIPLE, STEEP = (ONE, ONE), (ONE, ONE, ONE), (TWO, ONE)
BOW, NEAR, OVER = ((0, 1), (1, 1)), ((-1, 3), (1, 3)), ((1, 1), (-1, 1))
NAMES = ["a", "b", "long", "abcdefghijkl"]
NO_NAMES = [value for value in NO_VALUES if not isinstance(value, str) or value == ""] + [
    "A", "a b", " a", "a ", "a1", "a_", "a-b", "abcdefghijklm", "aa\n", "a:", "a;b", "none ", 1, 0, HUGE, ("a",), ["a"],
    "abcdefghijklmnop" * 200, (1, 1), "Abc", "abC", "a.b", "."]
ROWS = [PAIR, TRIPLE, STEEP, (ONE,), (ONE, LESS), (HALF, HALF), whole(1, 0, 1), whole(3, (1, 1), 1), (real(1, 10), NIL),
        whole(1, -1, 1), (NIL, ONE)]
DEMANDS = [("never more", "a", "b", "all"), ("never more", "a", "b", BOW), ("never more", "b", "a", NEAR),
           ("never more", "a", "a", "all"), ("never more", "long", "b", OVER), ("null", "a", "half"),
           ("null", "b", (1, 1)), ("null", "long", "half"), ("below", "a", "all", (4, 1)), ("below", "a", BOW, (1, 1)),
           ("below", "b", NEAR, (9, 1)), ("below", "long", OVER, (0, 1)), ("sure", "a", (1, 4), "all", (3, 1)),
           ("sure", "b", (0, 1), BOW, (2, 1)), ("sure", "b", (1, 1), "all", (1, 2)),
           ("sure", "abcdefghijkl", (1, 100), OVER, (7, 2))]
NO_DEMANDS = NO_VALUES + [
    1, (), ("null",), ("null", "a"), ("null", "a", "half", "half"), ("null", "a", "all"), ("null", "A", "half"),
    ("null", "", "half"), ("null", None, "half"), ("null", "a", (2, 2)), ("null", "a", None), ["null", "a", "half"],
    ("Null", "a", "half"), ("null ", "a", "half"), ("nul", "a", "half"), (None, "a", "half"), (Touchy(), "a", "half"),
    ("null", Touchy(), "half"), ("null", "a", Touchy()), ("nulls", "a", "all", 1), ("never more", "a", "b"),
    ("never more", "a", "all"), ("never more", "a", "b", "half"), ("never more", "a", "b", ((0, 1), (0, 1))),
    ("never more", "a", "b1", "all"), ("never more", "B", "a", "all"), ("never more", "a", None, "all"),
    ("never more", "a", Touchy(), "all"), ("never more", "a", "b", Touchy()), ("never more", "a", "b", "all", "all"),
    ("never more", "a", "b", [BOW[0], BOW[1]]), ("below", "a", "all"), ("below", "a", (1, 1), "all"),
    ("below", "a", "all", (-1, 1)), ("below", "a", "all", (2, 2)), ("below", "a", "all", 1),
    ("below", "a", "all", None),
    ("below", "a", "half", (1, 1)), ("below", "a", "all", (1, 1), (1, 1)), ("below", "a", "all", Touchy()),
    ("sure", "a", (1, 1), "all"), ("sure", "a", (-1, 1), "all", (1, 1)), ("sure", "a", (1, 1), "all", (-1, 1)),
    ("sure", "a", (1, 1), "half", (1, 1)), ("sure", "a", ((1, 1), (1, 1)), "all", (1, 1)), ("sure", "a", "all", (1, 1)),
    ("sure", "a", (True, 1), "all", (1, 1)), ("sure", "a", (1, 1), "all", (1, 1), ()),
    ("sure", "a", (1, 1), Touchy(), (1, 1)),
    ("put", "a", PAIR), ("a", "null", "half"), (("null",), "a", "half"), (b"null", "a", "half"), ("null", b"a", "half"),
    ("null", "abcdefghijklm", "half"), ("null", "a" * 3999, "half")]


def is_met(demand, rows):
    """Whether a demand holds, by Sturm's chains."""
    word, row = demand[0], rows[demand[1]]
    if word == "null":
        return oracle.sent(row, demand[2]) == (0, 0)
    if word == "never more":
        return 1 not in oracle.sign_row(oracle.summed(oracle.lags(row), oracle.lags(rows[demand[2]]), -1), demand[3])
    if word == "below":
        level = oracle.fraction(demand[3])
        return 1 not in oracle.sign_row(oracle.shifted(oracle.lags(row), -level), demand[2])
    room = oracle.fraction(demand[4]) - len(row) * oracle.fraction(demand[2])
    return room >= 0 and 1 not in oracle.sign_row(oracle.shifted(oracle.lags(row), -room * room), demand[3])


def names_in(demand):
    return [part for part in demand[1:3] if isinstance(part, str) and part not in ("half", "all")]


class Plain:
    """A second workshop: all that is kept is copied, ahead of each change."""

    def __init__(self):
        self.rows, self.demanded, self.past = {}, [], []

    def copied(self):
        return dict(self.rows), list(self.demanded), list(self.past)

    def back_to(self, kept):
        self.rows, self.demanded, self.past = dict(kept[0]), list(kept[1]), list(kept[2])

    def change(self, rows, demanded):
        self.past.append((self.rows, self.demanded))
        self.rows, self.demanded = rows, demanded

    def broken(self, rows):
        for index, demand in enumerate(self.demanded):
            if not is_met(demand, rows):
                return index
        return None

    def known(self, name):
        return isinstance(name, str) and name in self.rows

    def put(self, name, row):
        if name == "A":
            return InvalidName, name
        if row not in ROWS:
            return InvalidRow, row
        rows = dict(self.rows, **{name: row})
        if self.broken(rows) is not None:
            return Broken, self.broken(rows)
        self.change(rows, list(self.demanded))

    def forget(self, name):
        if not self.known(name):
            return UnknownName, name
        for index, demand in enumerate(self.demanded):
            if name in names_in(demand):
                return InUse, index
        self.change({key: row for key, row in self.rows.items() if key != name}, list(self.demanded))

    def feed(self, name, index, number):
        if not self.known(name):
            return UnknownName, name
        row = list(self.rows[name])
        if isinstance(index, bool) or not isinstance(index, int) or index not in range(len(row)):
            return InvalidIndex, index
        if number is None:
            return InvalidComplex, number
        row[index] = number
        if all(feed == NIL for feed in row):
            return InvalidRow, tuple(row)
        rows = dict(self.rows, **{name: tuple(row)})
        if self.broken(rows) is not None:
            return Broken, self.broken(rows)
        self.change(rows, list(self.demanded))

    def demand(self, demand):
        if demand not in DEMANDS:
            return InvalidDemand, demand
        for name in names_in(demand):
            if not self.known(name):
                return UnknownName, name
        if not is_met(demand, self.rows):
            return Broken, len(self.demanded)
        self.change(dict(self.rows), self.demanded + [demand])

    def lift(self, index):
        if isinstance(index, bool) or not isinstance(index, int) or index not in range(len(self.demanded)):
            return InvalidIndex, index
        self.change(dict(self.rows), self.demanded[:index] + self.demanded[index + 1:])

    def named(self, name):
        return self.rows[name] if self.known(name) else (UnknownName, name)

    def undo(self):
        if not self.past:
            return NothingToUndo, None
        self.rows, self.demanded = self.past.pop()


def outcome(action, *arguments):
    """What is returned, or the class of the error with what it keeps."""
    try:
        return action(*arguments)
    except MastError as error:
        return error.__class__, (list(vars(error).values()) or [None])[0]


class Leave(Exception):
    pass


class Beside(unittest.TestCase):
    def same(self, shop, plain):
        self.assertEqual(shop.names, tuple(sorted(plain.rows)))
        self.assertEqual(shop.demands, tuple(plain.demanded))
        self.assertEqual(len(shop), len(plain.past))
        for name in NAMES + ["other", "A"]:
            self.assertIs(name in shop, name in plain.rows)
            if name in plain.rows:
                self.assertEqual(shop.named(name), plain.rows[name])
        self.assertTrue(shop)

    def call(self, dice):
        word = dice.choice(["put"] * 4 + ["forget", "feed", "feed", "demand", "demand", "demand", "lift", "named",
                                          "undo"])
        name = dice.choice(NAMES + NAMES[:2] + ["other", "A"])
        if word == "put":
            return word, (name, dice.choice(ROWS + [None, (), (NIL, NIL)]))
        if word == "feed":
            return word, (name, dice.choice([0, 0, 1, 1, 2, -1, True, None]),
                          dice.choice([NIL, ONE, HALF, LESS, I, None]))
        if word == "demand":
            return word, (dice.choice(DEMANDS + DEMANDS + [("null", "a"), None]),)
        if word == "lift":
            return word, (dice.choice([0, 1, 2, 5, -1, False, "0"]),)
        return word, () if word == "undo" else (name,)

    def step(self, shop, plain, dice, tally):
        word, arguments = self.call(dice)
        told, wanted = outcome(getattr(shop, word), *arguments), getattr(plain, word)(*arguments)
        self.assertEqual(told, wanted)
        tally.add((word, told[0] if isinstance(told, tuple) and isinstance(told[0], type) else None))
        self.same(shop, plain)

    def block(self, shop, plain, dice, depth, tally):
        for _ in range(dice.randint(2, 9)):
            if depth < 4 and dice.random() < 0.15:
                self.attempt(shop, plain, dice, depth + 1, tally)
                self.same(shop, plain)
            else:
                self.step(shop, plain, dice, tally)

    def attempt(self, shop, plain, dice, depth, tally):
        kept, leaves, by_call = plain.copied(), dice.random() < 0.5, dice.random() < 0.3

        def action(given):
            self.assertIs(given, shop)
            self.same(shop, plain)
            self.block(shop, plain, dice, depth, tally)
            if leaves:
                raise Leave(depth)
            return "result"

        try:
            if by_call:
                self.assertEqual(shop.tried(action), "result")
            else:
                with shop.trial() as held:
                    action(held)
        except Leave as left:
            self.assertEqual(left.args, (depth,))
            plain.back_to(kept)
        tally.add(("trial", leaves, by_call))

    def test_long_drawn_runs(self):
        dice, tally = random.Random(190), set()
        for _ in range(40):
            shop, plain = Workshop(), Plain()
            self.same(shop, plain)
            for _ in range(6):
                self.block(shop, plain, dice, 0, tally)
            # all the way back
            while plain.past:
                self.assertIsNone(shop.undo())
                plain.undo()
                self.same(shop, plain)
            self.assertEqual((shop.names, shop.demands, len(shop)), ((), (), 0))
        for word, errors_of in [("put", [None, InvalidName, InvalidRow, Broken]),
                                ("forget", [None, UnknownName, InUse]),
                                ("feed", [None, UnknownName, InvalidIndex, InvalidComplex, InvalidRow, Broken]),
                                ("demand", [None, InvalidDemand, UnknownName, Broken]), ("lift", [None, InvalidIndex]),
                                ("named", [UnknownName]), ("undo", [None, NothingToUndo])]:
            for error in errors_of:
                self.assertIn((word, error), tally)
        for leaves in (True, False):
            for by_call in (True, False):
                self.assertIn(("trial", leaves, by_call), tally)


def stocked():
    shop = Workshop()
    shop.put("a", PAIR)
    shop.put("b", TRIPLE)
    shop.demand(("null", "a", "half"))
    shop.demand(("below", "b", "all", (9, 1)))
    shop.demand(("below", "a", "all", (4, 1)))
    shop.demand(("never more", "a", "b", ((0, 1), (1, 2))))
    return shop


def state(shop):
    return shop.names, shop.demands, len(shop), [shop.named(name) for name in shop.names]


class Refused(unittest.TestCase):
    def refused(self, shop, action, arguments, error, told):
        before = state(shop)
        with self.assertRaises(MastError) as caught:
            action(*arguments)
        self.assertIs(caught.exception.__class__, error)
        kept = list(vars(caught.exception).values())
        if error is NothingToUndo:
            self.assertEqual(kept, [])
        elif error in (UnknownName, InvalidDemand, InvalidName, InvalidIndex, InvalidComplex):
            self.assertIs(kept[0], told)
        else:
            self.assertEqual(kept, [told])
        self.assertEqual(state(shop), before)

    def test_names(self):
        shop = stocked()
        for value in NO_NAMES:
            self.refused(shop, shop.put, (value, PAIR), InvalidName, value)
            self.refused(shop, shop.put, (value, None), InvalidName, value)
        for value in NO_NAMES + ["c", "half", "all", "names", "aa", PAIR, deep(14), [[["a"]]], (["a"],)]:
            for method, rest in [(shop.forget, ()), (shop.feed, (0, ONE)), (shop.named, ()), (shop.feed, (None, None))]:
                self.refused(shop, method, (value,) + rest, UnknownName, value)
            self.assertIs(value in shop, False)

    def test_rows(self):
        shop = stocked()
        for value in NO_ROWS:
            before = state(shop)
            with self.assertRaises(InvalidRow) as caught:
                shop.put("a", value)
            self.assertIs(caught.exception.given, value)
            self.assertEqual(state(shop), before)

    def test_indexes(self):
        shop = stocked()
        for value in NO_VALUES + [2, -1, -2, 3, HUGE, -HUGE, (0,), "0", (1, 1)]:
            self.refused(shop, shop.feed, ("a", value, ONE), InvalidIndex, value)
            self.refused(shop, shop.feed, ("a", value, None), InvalidIndex, value)
        for value in NO_VALUES + [4, -1, -4, HUGE, (0,), "0"]:
            self.refused(shop, shop.lift, (value,), InvalidIndex, value)
        self.refused(Workshop(), Workshop().lift, (0,), InvalidIndex, 0)

    def test_numbers(self):
        shop = stocked()
        for value in NO_COMPLEXES:
            self.refused(shop, shop.feed, ("b", 2, value), InvalidComplex, value)

    def test_demands(self):
        shop = stocked()
        for value in NO_DEMANDS:
            self.refused(shop, shop.demand, (value,), InvalidDemand, value)
        for name, demand in [("c", ("null", "c", "half")), ("c", ("never more", "c", "d", "all")),
                             ("d", ("never more", "a", "d", "all")), ("all", ("below", "all", "all", (1, 1))),
                             ("c", ("never more", "c", "a", "all")), ("x", ("sure", "x", (0, 1), "all", (1, 1)))]:
            with self.assertRaises(UnknownName) as caught:
                shop.demand(demand)
            self.assertEqual(caught.exception.given, name)
        for demand in [("null", "b", "half"), ("below", "b", "all", (89, 10)), ("never more", "b", "a", "all"),
                       ("sure", "a", (1, HUGE), "all", (2, 1)), ("sure", "a", (3, 1), "all", (5, 1))]:
            self.refused(shop, shop.demand, (demand,), Broken, 4)

    def test_all_noughts(self):
        shop = stocked()
        shop.put("c", (NIL, ONE))
        self.refused(shop, shop.feed, ("c", 1, NIL), InvalidRow, (NIL, NIL))
        shop.put("d", (ONE,))
        self.refused(shop, shop.feed, ("d", 0, NIL), InvalidRow, (NIL,))
        # ahead of Broken: a row of noughts would not be above anything, nor null, but it is none
        shop.demand(("below", "d", "all", (1, 1)))
        self.refused(shop, shop.feed, ("d", 0, NIL), InvalidRow, (NIL,))
        shop.put("e", (TWO, NIL))
        shop.demand(("never more", "d", "e", "all"))
        self.refused(shop, shop.feed, ("e", 0, NIL), InvalidRow, (NIL, NIL))

    def test_the_first_demand_that_would_not_hold(self):
        shop = stocked()
        self.refused(shop, shop.put, ("a", STEEP), Broken, 0)
        self.refused(shop, shop.put, ("a", whole(3, 3)), Broken, 2)
        self.refused(shop, shop.put, ("b", whole(4)), Broken, 1)
        self.refused(shop, shop.put, ("b", (ONE,)), Broken, 3)
        self.refused(shop, shop.feed, ("a", 0, LESS), Broken, 0)
        self.refused(shop, shop.feed, ("b", 1, whole(2)[0]), Broken, 1)
        self.refused(shop, shop.forget, ("a",), InUse, 0)
        self.refused(shop, shop.forget, ("b",), InUse, 1)
        shop.lift(1)
        self.refused(shop, shop.forget, ("b",), InUse, 2)
        shop.lift(0)
        self.refused(shop, shop.put, ("a", whole(3, 3)), Broken, 0)

    def test_nothing_to_undo(self):
        shop = Workshop()
        self.refused(shop, shop.undo, (), NothingToUndo, None)
        shop.put("a", PAIR)
        shop.undo()
        self.refused(shop, shop.undo, (), NothingToUndo, None)


class Changes(unittest.TestCase):
    def test_each_is_one_also_if_it_leaves_everything_as_it_is(self):
        shop = stocked()
        many = len(shop)
        for action, arguments in [(shop.put, ("a", PAIR)), (shop.feed, ("a", 0, ONE)), (shop.put, ("b", TRIPLE)),
                                  (shop.demand, (("null", "a", "half"),)), (shop.lift, (4,))]:
            before = state(shop)
            self.assertIsNone(action(*arguments))
            many += 1
            self.assertEqual(len(shop), many)
            self.assertIsNone(shop.undo())
            self.assertEqual(state(shop), before)
            action(*arguments)
        shop.named("a")
        self.assertEqual(len(shop), many)

    def test_a_demand_may_be_there_twice(self):
        shop = stocked()
        shop.demand(("null", "a", "half"))
        self.assertEqual(shop.demands.count(("null", "a", "half")), 2)
        shop.lift(0)
        self.assertEqual(shop.demands[-1], ("null", "a", "half"))
        with self.assertRaises(Broken) as caught:
            shop.put("a", (ONE,))
        self.assertEqual(caught.exception.index, 3)

    def test_as_they_were_passed(self):
        shop = Workshop()
        row, demand = tuple(list(PAIR)), tuple(["null", "a", "half"])
        shop.put("a", row)
        shop.demand(demand)
        self.assertIs(shop.named("a"), row)
        self.assertIs(shop.demands[0], demand)

    def test_a_row_in_the_place_of_another_one(self):
        shop = stocked()
        shop.put("a", fed(PAIR, HALF))
        self.assertEqual(shop.named("a"), (HALF, HALF))
        shop.put("a", (NIL, ONE, ONE))
        self.assertEqual(shop.named("a"), (NIL, ONE, ONE))
        self.assertEqual(shop.names, ("a", "b"))

    def test_names_ascend(self):
        shop = Workshop()
        for name in ("b", "aa", "a", "zz", "z", "ab", "abcdefghijkl"):
            shop.put(name, PAIR)
        self.assertEqual(shop.names, ("a", "aa", "ab", "abcdefghijkl", "b", "z", "zz"))
        shop.forget("ab")
        self.assertEqual(shop.names, ("a", "aa", "abcdefghijkl", "b", "z", "zz"))
        shop.undo()
        self.assertEqual(len(shop.names), 7)

    def test_what_was_told_stays(self):
        shop = stocked()
        names, demands = shop.names, shop.demands
        shop.lift(0)
        shop.put("c", PAIR)
        self.assertEqual((names, len(demands)), (("a", "b"), 4))
        for value, kind in [(shop.names, tuple), (shop.demands, tuple), (len(shop), int)]:
            self.assertIs(value.__class__, kind)

    def test_by_name(self):
        shop = Workshop()
        shop.put(row=PAIR, name="a")
        shop.feed(number=TWO, index=0, name="a")
        shop.demand(demand=("below", "a", "all", (9, 1)))
        self.assertEqual(shop.named(name="a"), STEEP)
        shop.lift(index=0)
        shop.forget(name="a")
        self.assertEqual(shop.tried(action=len), 5)

    def test_many_changes(self):
        shop = Workshop()
        for k in range(1500):
            shop.put("a", (real(k + 1),))
        self.assertEqual(len(shop), 1500)
        for k in reversed(range(1500)):
            self.assertEqual(shop.named("a"), (real(k + 1),))
            shop.undo()
        self.assertEqual(shop.names, ())


class Demands(unittest.TestCase):
    def test_levels_just_met(self):
        shop = Workshop()
        shop.put("a", PAIR)
        shop.put("b", TRIPLE)
        little = (1, 10 ** 60)
        for demand, holds in [
                (("below", "a", "all", (4, 1)), True), (("below", "a", OVER, (2, 1)), True),
                (("below", "a", OVER, (2 * 10 ** 60 - 1, 10 ** 60)), False),
                (("below", "a", ("half", (-1, 1)), (2, 1)), True),
                (("sure", "a", (1, 4), "all", (5, 2)), True), (("sure", "a", (1, 4), OVER, (2, 1)), True),
                (("sure", "a", little, "all", (2, 1)), False), (("sure", "a", (0, 1), "all", (2, 1)), True),
                (("sure", "a", (2, 1), "all", (3, 1)), False), (("sure", "a", (1, 4), OVER, (191, 100)), False),
                (("null", "a", "half"), True), (("null", "a", (HUGE, 1)), False), (("null", "b", (1, 1)), False),
                (("never more", "a", "b", ((0, 1), (1, 1))), False), (("never more", "a", "b", ((0, 1), (1, 2))), True),
                (("never more", "a", "a", "all"), True), (("never more", "b", "a", "all"), False)]:
            self.assertIs(is_met(demand, {"a": PAIR, "b": TRIPLE}), holds)
            self.assertEqual(outcome(shop.demand, demand), None if holds else (Broken, len(shop.demands)))

    def test_they_hold_after_each_change(self):
        dice = random.Random(191)
        shop = Workshop()
        for name in ("a", "b"):
            shop.put(name, dice.choice(ROWS))
        for demand in DEMANDS:
            outcome(shop.demand, demand)
        for _ in range(120):
            outcome(shop.put, dice.choice(["a", "b"]), dice.choice(ROWS))
            outcome(shop.feed, dice.choice(["a", "b"]), dice.choice([0, 1]), dice.choice([HALF, ONE, LESS, NIL]))
            rows = {name: shop.named(name) for name in shop.names}
            for demand in shop.demands:
                self.assertTrue(is_met(demand, rows))


class Trials(unittest.TestCase):
    def test_a_call_alone_changes_nothing(self):
        shop = stocked()
        before = state(shop)
        trial = shop.trial()
        self.assertEqual(state(shop), before)
        shop.put("c", PAIR)
        with trial as held:
            self.assertIs(held, shop)
            shop.put("d", PAIR)
        self.assertEqual(shop.names, ("a", "b", "c", "d"))

    def test_it_begins_with_the_block(self):
        shop = stocked()
        trial = shop.trial()
        shop.put("c", PAIR)
        before = state(shop)
        with self.assertRaises(Leave):
            with trial:
                shop.forget("c")
                raise Leave()
        self.assertEqual(state(shop), before)

    def test_all_stays_if_nothing_is_raised(self):
        shop = stocked()
        many = len(shop)
        with shop.trial():
            shop.put("c", PAIR)
            shop.put("d", PAIR)
        self.assertEqual(len(shop), many + 2)
        shop.undo()
        self.assertEqual(shop.names, ("a", "b", "c"))

    def test_what_is_raised_is_passed_on(self):
        for error in (Leave("x"), KeyError(3), ZeroDivisionError(), KeyboardInterrupt(), SystemExit(4), MastError(),
                      Broken(7), GeneratorExit(), StopIteration(1)):
            shop = stocked()
            before = state(shop)
            with self.assertRaises(error.__class__) as caught:
                with shop.trial():
                    shop.put("c", PAIR)
                    raise error
            self.assertIs(caught.exception, error)
            self.assertEqual(state(shop), before)

            def action(held):
                held.undo()
                held.undo()
                held.lift(0)
                raise error

            with self.assertRaises(error.__class__) as caught:
                shop.tried(action)
            self.assertIs(caught.exception, error)
            self.assertEqual(state(shop), before)

    def test_an_error_of_the_workshop_within(self):
        shop = stocked()
        before = state(shop)
        with self.assertRaises(Broken):
            with shop.trial():
                shop.put("c", PAIR)
                shop.put("a", STEEP)
        self.assertEqual(state(shop), before)

    def test_changes_of_before_are_undone_within(self):
        shop = stocked()
        before = state(shop)
        with shop.trial():
            shop.undo()
            shop.undo()
        self.assertEqual(len(shop), 4)
        shop = stocked()
        with self.assertRaises(Leave):
            with shop.trial():
                while len(shop):
                    shop.undo()
                shop.put("new", TRIPLE)
                raise Leave()
        self.assertEqual(state(shop), before)
        # and what can be taken back is what could be
        for _ in range(6):
            shop.undo()
        self.assertEqual((len(shop), shop.names), (0, ()))

    def test_trials_within_trials(self):
        shop = stocked()
        many = len(shop)
        with shop.trial():
            shop.put("c", PAIR)
            with self.assertRaises(Leave):
                with shop.trial():
                    shop.put("d", PAIR)
                    with shop.trial():
                        shop.put("e", PAIR)
                        shop.forget("c")
                    raise Leave()
            self.assertEqual((shop.names, len(shop)), (("a", "b", "c"), many + 1))
            with shop.trial() as one, shop.trial() as two:
                self.assertIs(one, two)
                shop.put("f", PAIR)
        self.assertEqual((shop.names, len(shop)), (("a", "b", "c", "f"), many + 2))
        before = state(shop)
        with self.assertRaises(Leave):
            with shop.trial():
                shop.put("g", PAIR)
                with shop.trial():
                    shop.put("h", PAIR)
                raise Leave()
        self.assertEqual(state(shop), before)

    def test_tried(self):
        shop = stocked()
        for value in (None, 0, "x", [1], shop, Touchy()):
            self.assertIs(shop.tried(lambda held: value), value)
        self.assertIsNone(shop.tried(lambda held: held.put("c", PAIR)))
        self.assertIn("c", shop)
        self.assertEqual(shop.tried(lambda held: held.tried(lambda again: again.named("c"))), PAIR)

    def test_two_workshops(self):
        one, two = stocked(), stocked()
        with self.assertRaises(Leave):
            with one.trial():
                one.put("c", PAIR)
                two.put("c", PAIR)
                raise Leave()
        self.assertEqual((one.names, two.names), (("a", "b"), ("a", "b", "c")))


class Objects(unittest.TestCase):
    def test_true_in_any_case(self):
        shop = Workshop()
        self.assertIs(bool(shop), True)
        self.assertEqual(len(shop), 0)
        self.assertTrue(bool(stocked()) and bool(shop.trial()))

    def test_equal_to_itself_alone(self):
        shop = Workshop()
        for other in [Workshop(), stocked(), None, 0, "", (), [], {}, Touchy(), object(), Workshop, shop.trial(), 1.5,
                      Broken(1)]:
            self.assertIs(shop == other, False)
            self.assertIs(shop != other, True)
        self.assertIs(shop == shop, True)
        self.assertIs(shop != shop, False)
        trial = shop.trial()
        self.assertIs(trial == trial, True)
        self.assertIs(trial == shop.trial(), False)
        self.assertIs(trial != Touchy(), True)

    def test_methods_stand_in_the_class(self):
        for name in ("put", "forget", "feed", "demand", "lift", "named", "undo", "trial", "tried", "names", "demands",
                     "__len__", "__contains__", "__init__"):
            self.assertIn(name, vars(Workshop))
        for name in ("names", "demands"):
            self.assertIsInstance(vars(Workshop)[name], property)
        self.assertEqual(Workshop.__bases__, (object,))
        for name, parameters in [("put", ["name", "row"]), ("forget", ["name"]), ("feed", ["name", "index", "number"]),
                                 ("demand", ["demand"]), ("lift", ["index"]), ("named", ["name"]), ("undo", []),
                                 ("trial", []), ("tried", ["action"]), ("__init__", [])]:
            self.assertEqual(list(inspect.signature(getattr(Workshop, name)).parameters)[1:], parameters)

    def test_nothing_passed_is_changed(self):
        shop = Workshop()
        row, demand = [even_row(4), ("sure", "a", (1, 4), BOW, (9, 1))]
        kept = copy.deepcopy((row, demand))
        shop.put("a", row)
        shop.demand(demand)
        shop.feed("a", 0, HALF)
        self.assertEqual((row, demand), kept)
        self.assertEqual(errors.Broken(2).index, 2)
        self.assertEqual(oracle.power(shop.named("a"), "half"), Fraction(1, 4))
