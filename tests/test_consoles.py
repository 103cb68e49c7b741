"""The console: each form of line, each bent at each place."""

import inspect
import random
import re
import unittest
from math import gcd

import oracle
from helpers import HALF, HUGE, I, LESS, NIL, NO_VALUES, ONE, TWO, Touchy
from mastrows.consoles import Console
from mastrows.errors import (Broken, InUse, InvalidIndex, InvalidPhrase, InvalidRow, MastError, NotAWorkshop,
                             NothingToUndo, UnknownName)
from mastrows.points import noise_of
from mastrows.rows import nulls_on, power_at, sent
from mastrows.workshops import Workshop
from samples import FACTORS, SPOTS, some_number, some_row
from test_workshops import state, stocked

PAIR = (ONE, ONE)
# lines that are understood of the workshop below
LINES = ["row a: 1 0; 1 0", "row abcdefghijkl: -3/4 1/2", "row b: 0 0; 1 -1/3; 0 7", "feed a 0: 2 0",
         "feed b 2: -1/2 0",
         "forget b", "undo", "show a", "sent a: half", "sent b: -3/4", "power a: 1", "power a: half", "noise a",
         "nulls a",
         "names"]


def number_text(value):
    return str(value[0]) if value[1] == 1 else f"{value[0]}/{value[1]}"


def complex_text(value):
    return number_text(value[0]) + " " + number_text(value[1])


def row_text(row):
    return "; ".join(complex_text(feed) for feed in row)


def turn_text(turn):
    return turn if turn == "half" else number_text(turn)


def shop_of(**rows):
    shop = Workshop()
    for name, row in rows.items():
        shop.put(name, row)
    return shop


def small():
    shop = shop_of(a=PAIR, b=(ONE, TWO, ONE), abcdefghijkl=(I,))
    shop.demand(("below", "abcdefghijkl", "all", (4, 1)))
    return shop


class Forms(unittest.TestCase):
    def test_row(self):
        shop = Workshop()
        console = Console(shop)
        for text, row in [("1 0; 1 0", PAIR), ("0 1", (I,)), ("-3/4 1/2; 0 0", (((-3, 4), (1, 2)), NIL)),
                          ("; ".join(["1 0"] * 8), (ONE,) * 8), ("0 0; 0 0; -1 0", (NIL, NIL, LESS))]:
            self.assertEqual(console.say("row a: " + text), "done")
            self.assertEqual(shop.named("a"), row)
            self.assertEqual(console.say("show a"), text)
        self.assertEqual(len(shop), 5)
        self.assertEqual(console.say("row b: 2 0"), "done")
        self.assertEqual(shop.names, ("a", "b"))

    def test_feed(self):
        shop = small()
        console = Console(shop)
        self.assertEqual(console.say("feed a 0: 2 0"), "done")
        self.assertEqual(shop.named("a"), (TWO, ONE))
        self.assertEqual(console.say("feed a 1: 0 -1/2"), "done")
        self.assertEqual(shop.named("a"), (TWO, ((0, 1), (-1, 2))))
        shop.put("eight", (ONE,) * 8)
        self.assertEqual(console.say("feed eight 7: 0 0"), "done")
        self.assertEqual(shop.named("eight"), (ONE,) * 7 + (NIL,))

    def test_forget_and_undo(self):
        shop = small()
        console = Console(shop)
        many = len(shop)
        self.assertEqual(console.say("forget b"), "done")
        self.assertEqual((shop.names, len(shop)), (("a", "abcdefghijkl"), many + 1))
        self.assertEqual(console.say("undo"), "done")
        self.assertEqual((shop.names, len(shop)), (("a", "abcdefghijkl", "b"), many))

    def test_what_is_told(self):
        console = Console(small())
        self.assertEqual([console.say(line) for line in [
            "show a", "show abcdefghijkl", "sent a: half", "sent a: 1", "sent b: 0", "sent abcdefghijkl: -7/3",
            "power a: 1", "power a: half", "power b: 1/2", "noise a", "noise b", "nulls a", "nulls b",
            "nulls abcdefghijkl", "names"]],
            ["1 0; 1 0", "0 1", "0 0", "1 1", "4 0", "0 1", "2", "0", "256/25", "2", "6", "1", "1", "0",
             "a abcdefghijkl b"])

    def test_no_names(self):
        shop = Workshop()
        console = Console(shop)
        self.assertEqual(console.say("names"), "none")
        shop.put("none", PAIR)
        self.assertEqual(console.say("names"), "none")
        shop.put("names", PAIR)
        self.assertEqual(console.say("names"), "names none")

    def test_names_that_are_words(self):
        shop = Workshop()
        console = Console(shop)
        for name in ("row", "feed", "forget", "undo", "show", "sent", "power", "noise", "nulls", "names", "half"):
            self.assertEqual(console.say(f"row {name}: 1 0; 1 0"), "done")
            self.assertEqual(console.say(f"show {name}"), "1 0; 1 0")
            self.assertEqual(console.say(f"power {name}: half"), "0")
            self.assertEqual(console.say(f"feed {name} 1: 2 0"), "done")
            self.assertEqual(console.say(f"noise {name}"), "5")
            self.assertEqual(console.say(f"forget {name}"), "done")

    def test_any_rows(self):
        dice = random.Random(200)
        for _ in range(120):
            row, turn, number = some_row(dice), dice.choice(SPOTS + [(-5, 7)]), some_number(dice)
            shop = Workshop()
            console = Console(shop)
            self.assertEqual(console.say("row x: " + row_text(row)), "done")
            self.assertEqual(shop.named("x"), row)
            self.assertEqual(console.say("show x"), row_text(row))
            self.assertEqual(console.say("sent x: " + turn_text(turn)), complex_text(sent(row, turn)))
            self.assertEqual(console.say("power x: " + turn_text(turn)), number_text(power_at(row, turn)))
            self.assertEqual(console.say("noise x"), number_text(noise_of(row)))
            self.assertEqual(console.say("nulls x"), str(nulls_on(row, "all")))
            at = dice.randrange(len(row))
            feeds = row[:at] + (number,) + row[at + 1:]
            if any(feed != NIL for feed in feeds):
                self.assertEqual(console.say(f"feed x {at}: {complex_text(number)}"), "done")
                self.assertEqual(shop.named("x"), feeds)

    def test_nulls_that_no_fraction_tells(self):
        shop = Workshop()
        for row in FACTORS:
            shop.put("x", row)
            self.assertEqual(Console(shop).say("nulls x"), str(oracle.sign_row(oracle.lags(row), "all").count(0)))

    def test_numbers_of_many_figures(self):
        shop = Workshop()
        console = Console(shop)
        for figures in (1, 63, 64, 65, 127, 128, 129, 400, 1000, 3900):
            for lead in ("1", "9", "1" + "0" * (figures - 1), "-7"):
                text = (lead + "7" * figures)[:figures + lead.count("-")]
                number = int(text)
                self.assertEqual(console.say(f"row a: {text} 0"), "done")
                self.assertEqual(shop.named("a"), (((number, 1), (0, 1)),))
                self.assertEqual(console.say("show a"), f"{text} 0")
        big = 10 ** 1999 + 7
        for pair in [(1, big), (-1, big), (big, 10 ** 1000), (big - 1, big)]:
            self.assertEqual(console.say(f"row a: {pair[0]}/{pair[1]} 1"), "done")
            self.assertEqual(shop.named("a"), ((pair, (1, 1)),))
            self.assertEqual(console.say("show a"), f"{pair[0]}/{pair[1]} 1")
        self.assertEqual(console.say("noise a"), number_text(noise_of(shop.named("a"))))
        turn = 10 ** 400 + 1
        shop.put("b", (ONE, ONE))
        self.assertEqual(console.say(f"power b: {turn}"), number_text(power_at(PAIR, (turn, 1))))

    def test_numbers_that_python_does_not_write(self):
        # Python itself writes no numbers of so many figures
        shop = shop_of(a=(((HUGE, 1), (-HUGE, 7)),))
        text = Console(shop).say("show a")
        first = "1" + "0" * 4999 + "1"
        self.assertEqual(text, f"{first} -{first}/7")
        self.assertEqual(Console(shop).say("row b: " + text), "done")
        self.assertEqual(shop.named("b"), shop.named("a"))


class Phrases(unittest.TestCase):
    def refused(self, line, shop=None, console=None):
        shop = small() if shop is None else shop
        before = state(shop)
        with self.assertRaises(InvalidPhrase) as caught:
            (console or Console(shop)).say(line)
        self.assertIs(caught.exception.given, line)
        self.assertEqual(state(shop), before)

    def test_no_strings(self):
        for value in NO_VALUES + [1, 0, HUGE, (1, 1), ("undo",), ["names"], b"names", PAIR]:
            self.refused(value)

    def test_no_lines(self):
        for line in ["", " ", ":", ": ", "a", "A", "row", "feed", "forget", "show", "sent", "power", "noise", "nulls",
                     "name",
                     "undo undo", "names a", "undo a", "names names", "undo:", "undo: ", "names:", "names: ", "show",
                     "show ",
                     "show a:", "show a: ", "show: a", "show a: 1", "forget a b", "nulls a: half", "noise a: 1",
                     "undo: undo",
                     "row a", "row a:", "row a: ", "row: 1 0", "row 1 0", "row a 1 0", "row a 0: 1 0", "row a : 1 0",
                     "feed a: 1 0", "feed a 0", "feed a 0:", "feed a 0: ", "feed a 0 1 0", "feed a 0 0: 1 0",
                     "feed 0: 1 0",
                     "feed 0 a: 1 0", "sent a", "sent a:", "sent a: ", "sent a half", "sent: half", "sent a: all",
                     "power a", "power a half", "power a:half", "power a : half", "sent a 0: half", "put a: 1 0",
                     "lift 0",
                     "demand null a half", "done", "none", "Undo", "UNDO", "Names", "Row a: 1 0", "ROW a: 1 0",
                     "rows a: 1 0"]:
            self.refused(line)

    def test_numbers(self):
        for text in ["+1", "-0", "01", "-01", "00", "1.0", "1e3", "1_000", "0x1", "2/4", "3/1", "0/1", "0/2", "1/0",
                     "-1/-2",
                     "1/-2", "+1/2", "1/+2", "1/02", "01/2", "-0/3", "1//2", "/2", "2/", "/", "--1", "1-", "-", "1/2/3",
                     "1 /2", "1/ 2", "half", "all", "one", "i", "1i", "", " 1", "1 ", "(1)", "1,0", "9/3", "6/-4",
                     "0.5",
                     "10/4", "1\n", "1\t", "1:", "1;", "a", "True", "None", "0b1", "1j", "inf", "nan"]:
            for line in [f"row a: {text} 0", f"row a: 0 {text}", f"row a: 1 0; {text} 0", f"row a: 1 {text}; 1 0",
                         f"feed a 0: {text} 0", f"feed a 0: 0 {text}"] + (
                         [f"sent a: {text}", f"power a: {text}"] if text != "half" else []):
                self.refused(line)

    def test_indexes(self):
        for text in ["-1", "+0", "00", "01", "-0", "1/2", "0/1", "half", "a", "", " ", "0.0", "1 ", "x1", "1e0",
                     "None", "A"]:
            self.refused(f"feed a {text}: 1 0")

    def test_names(self):
        for text in ["", "A", "a1", "aB", "abcdefghijklm", "a.b", "a_b", "1", "a-b", "a;", "a,", "a\n", "\ta", "a/b",
                     "(a)", "*"]:
            for line in [f"row {text}: 1 0", f"feed {text} 0: 1 0", f"forget {text}", f"show {text}",
                         f"sent {text}: half",
                         f"power {text}: half", f"noise {text}", f"nulls {text}"]:
                self.refused(line)

    def test_complexes(self):
        for text in ["1", "1 0 0", "1  0", " 1 0", "1 0 ", "1,0", "1;0", "1+0", "1 half", "half", "half 0", "(1 0)",
                     "1 0;",
                     "1 0; ", "1 0;1 0", "; 1 0", "1 0 ; 1 0", "1 0;  1 0", "1 0, 1 0", "1 0: 1 0", "1 0; 1",
                     "1 0; 1 0;"]:
            self.refused(f"row a: {text}")
            self.refused(f"feed a 0: {text}")
        self.refused("feed a 0: 1 0; 1 0")

    def test_texts_of_no_rows(self):
        for text in ["0 0", "0 0; 0 0", "; ".join(["0 0"] * 8), "; ".join(["1 0"] * 9), "; ".join(["0 0"] * 9),
                     "; ".join(["1 0"] * 20)]:
            self.refused(f"row a: {text}")

    def test_a_sign_too_many_or_too_few(self):
        shop = small()
        # each line with a sign left out, put in, exchanged or doubled: mostly it is no line, or another one that is
        for line in LINES:
            bents = {line[:k] + line[k + 1:] for k in range(len(line))}
            for sign in " :;/-+0a2A\n":
                bents.update(line[:k] + sign + line[k:] for k in range(len(line) + 1))
                bents.update(line[:k] + sign + line[k + 1:] for k in range(len(line)))
            bents.update(line[:k] + line[k:k + 2][::-1] + line[k + 2:] for k in range(len(line) - 1))
            for bent in sorted(bents):
                before = state(shop)
                if bent in LINES:
                    continue
                if plain_form(bent):
                    with shop_back(shop):
                        try:
                            Console(shop).say(bent)
                        except InvalidPhrase:
                            self.fail(bent)
                        except MastError:
                            self.assertEqual(state(shop), before)
                else:
                    self.refused(bent, shop)

    def test_lines_that_are_fine(self):
        for line in LINES:
            self.assertTrue(plain_form(line))
            self.assertIsInstance(Console(small()).say(line), str)


class shop_back:
    """Puts a workshop back, whatever has been done within."""

    def __init__(self, shop):
        self.trial, self.shop = shop.trial(), shop

    def __enter__(self):
        self.trial.__enter__()

    def __exit__(self, kind, *rest):
        self.trial.__exit__(ValueError, None, None)


def plain_form(line):
    """Whether a line is of one of the forms: by another way."""
    whole = r"(?:0|-?[1-9][0-9]*)"
    number = rf"({whole})(?:/([1-9][0-9]*))?"
    name, pair = r"[a-z]{1,12}", rf"{number} {number}"
    found = re.fullmatch(rf"row {name}: ({pair}(?:; {pair})*)", line, re.A)
    if found:
        feeds = found.group(1).split("; ")
        return len(feeds) <= 8 and any(feed != "0 0" for feed in feeds) and all(fair(part) for f in feeds
                                                                              for part in f.split(" "))
    found = re.fullmatch(rf"feed {name} (?:0|[1-9][0-9]*): ({pair})", line, re.A)
    if found:
        return all(fair(part) for part in found.group(1).split(" "))
    found = re.fullmatch(rf"(?:sent|power) {name}: (half|{number})", line, re.A)
    if found:
        return found.group(1) == "half" or fair(found.group(1))
    return re.fullmatch(rf"(?:forget|show|noise|nulls) {name}|undo|names", line, re.A) is not None


def fair(text):
    """Whether a fraction, of whole numbers that are fair, is reduced, and has no 1 below."""
    top, slash, bottom = text.partition("/")
    return not slash or (bottom != "1" and gcd(int(top), int(bottom)) == 1)


class Called(unittest.TestCase):
    def refused(self, shop, line, error, told):
        before = state(shop)
        with self.assertRaises(MastError) as caught:
            Console(shop).say(line)
        self.assertIs(caught.exception.__class__, error)
        self.assertEqual(list(vars(caught.exception).values()), told)
        self.assertEqual(state(shop), before)

    def test_unknown_names(self):
        for line in ["forget x", "show x", "noise x", "nulls x", "sent x: half", "power x: 0", "feed x 0: 1 0",
                     "feed x 99: 0 0"]:
            self.refused(small(), line, UnknownName, ["x"])

    def test_indexes(self):
        for index in (2, 3, 8, 10 ** 30):
            self.refused(small(), f"feed a {index}: 1 0", InvalidIndex, [index])
            self.refused(small(), f"feed a {index}: 0 0", InvalidIndex, [index])

    def test_of_the_workshop(self):
        self.refused(small(), "forget abcdefghijkl", InUse, [0])
        self.refused(small(), "row abcdefghijkl: 3 0", Broken, [0])
        self.refused(small(), "feed abcdefghijkl 0: 3 0", Broken, [0])
        self.refused(small(), "feed abcdefghijkl 0: 0 0", InvalidRow, [(NIL,)])
        self.refused(stocked(), "row a: 2 0; 1 0", Broken, [0])
        self.refused(stocked(), "feed a 0: -1 0", Broken, [0])
        self.refused(Workshop(), "undo", NothingToUndo, [])

    def test_a_line_is_looked_at_first(self):
        for line in ["feed x 0: 2/4 0", "row abcdefghijkl: 0 0", "feed x -1: 1 0", "show X"]:
            with self.assertRaises(InvalidPhrase) as caught:
                Console(small()).say(line)
            self.assertIs(caught.exception.given, line)


class Consoles(unittest.TestCase):
    def test_no_workshops(self):
        for value in NO_VALUES + [1, PAIR, "shop", Workshop, Console(Workshop()), Workshop().trial()]:
            with self.assertRaises(NotAWorkshop) as caught:
                Console(value)
            self.assertIs(caught.exception.given, value)

    def test_two_consoles_of_one_workshop(self):
        shop = Workshop()
        one, two = Console(shop), Console(shop=shop)
        one.say(line="row a: 1 0")
        self.assertEqual(two.say("names"), "a")
        shop.put("b", (HALF,))
        self.assertEqual(one.say("show b"), "1/2 0")
        two.say("undo")
        self.assertEqual(shop.names, ("a",))

    def test_equal_to_itself_alone_and_true(self):
        shop = Workshop()
        console = Console(shop)
        self.assertIs(console == console, True)
        self.assertIs(console != console, False)
        for other in (Console(shop), shop, None, 0, "", Touchy(), object(), Console):
            self.assertIs(console == other, False)
            self.assertIs(console != other, True)
        self.assertIs(bool(console), True)

    def test_the_class(self):
        self.assertIn("say", vars(Console))
        self.assertEqual(list(inspect.signature(Console).parameters), ["shop"])
        self.assertEqual(list(inspect.signature(Console.say).parameters)[1:], ["line"])

    def test_within_a_trial(self):
        shop = small()
        before = state(shop)
        with self.assertRaises(UnknownName):
            with shop.trial() as held:
                Console(held).say("row c: 1 0")
                Console(held).say("forget d")
        self.assertEqual(state(shop), before)
