"""Certificates: each tells the claim that is so, with a paper that the checker accepts."""

import inspect
import random
import unittest
from fractions import Fraction

import oracle
from helpers import EIGHT, HALF, HUGE, I, LAGS, LESS, NIL, ONE, TWO, WAVE, real
from mastrows.certificates import (certify_bearing, certify_best, certify_gain, certify_life, certify_like,
                                   certify_lobe, certify_never, certify_null, certify_nulls, certify_power, certify_rank,
                                   certify_silence,
                                   certify_split, certify_sure, certify_waves, certify_wish)
from mastrows.checker import accepts
from mastrows.errors import NoRow, NotAbove, Silent
from mastrows.lobes import least_lobe
from mastrows.loops import dies_away, zeros_split
from mastrows.makers import fed, mirrored, steered
from mastrows.patterns import lags_sum, lags_times
from mastrows.points import gain, multipliers, row_through
from mastrows.rows import is_row
from mastrows.turns import is_on, turn_times
from samples import (ARCS, FACTORS, FOURTH, OPPOSITE, ROOT_TWO, SPOTS, THIRD, some_lags, some_number, some_row, times,
                     whole)
from test_tables import SKEW, THIRDS, some_lot

PAIR, TRIPLE, STEEP, FLAT, LONE = (ONE, ONE), (ONE, ONE, ONE), (TWO, ONE), (NIL, ONE, TWO), (ONE,)
BOW, NEAR, OVER = ((0, 1), (1, 1)), ((-1, 3), (1, 3)), ((1, 1), (-1, 1))
# where 2 + 2 cos is just above 1: the cosine - 1 / 2 is told by no fraction, and this is ever so near to it
EDGE = Fraction(17320508075688772935274463415058723669428052538103806280558069794519330169088, 10 ** 76)
WORDS = {
    certify_power: ("same power", "unlike power"), certify_like: ("like", "unlike power"),
    certify_never: ("never more", "more"), certify_null: ("null", "heard there"), certify_nulls: ("nulls",),
    certify_wish: ("wished", "dark"), certify_sure: ("sure", "unsure"),
    certify_bearing: ("tells", "folds", "same reading"), certify_silence: ("stays below", "may pass"),
    certify_waves: ("of waves", "barred"), certify_rank: ("rank",), certify_best: ("best",), certify_gain: ("gain",),
    certify_lobe: ("least lobe",), certify_life: ("dies away", "stays"), certify_split: ("split",)}


def power_less(row, level):
    return oracle.shifted(oracle.lags(row), -Fraction(level))


class Certificates(unittest.TestCase):
    def told(self, function, *arguments):
        """What is told, accepted, with the arguments as they were passed."""
        pair = function(*arguments)
        self.assertIsInstance(pair, tuple)
        claim, paper = pair
        self.assertIn(claim[0], WORDS[function])
        for part, argument in zip(claim[1:], arguments):
            self.assertIs(part, argument)
        self.assertIs(accepts(claim, paper), True)
        for word in WORDS[function]:
            if word != claim[0] and not (word == "like" and claim[0] == "unlike power"):
                self.assertIs(accepts((word,) + claim[1:], paper), False)
                self.assertIs(accepts((word,) + claim[1:], ()), False)
        self.assertEqual(function(*arguments), pair)
        return claim, paper


class Powers(Certificates):
    def rows(self, dice):
        row = some_row(dice, 7)
        other = dice.choice([row, mirrored(row), fed(row, I), steered(row, (1, 2)), some_row(dice), (NIL,) + row,
                             fed(row, real(10 ** 40, 10 ** 40 + 1)), row[::-1]])
        return row, other

    def test_power(self):
        dice, met = random.Random(210), set()
        for _ in range(150):
            row, other = self.rows(dice)
            claim, paper = self.told(certify_power, row, other)
            same = oracle.line(oracle.lags(row)) == oracle.line(oracle.lags(other))
            met.add(same)
            self.assertEqual(claim[0], "same power" if same else "unlike power")
            if same:
                self.assertEqual(paper, ())
            else:
                self.assertNotEqual(oracle.power(row, paper), oracle.power(other, paper))
        self.assertEqual(met, {True, False})

    def test_like(self):
        dice, met = random.Random(211), set()
        for _ in range(150):
            row, other = self.rows(dice)
            claim, paper = self.told(certify_like, row, other)
            same = oracle.line(oracle.lags(row)) == oracle.line(oracle.lags(other))
            met.add(same)
            self.assertEqual(claim[0], "like" if same else "unlike power")
            if same:
                common, flipped, factor = paper
                self.assertEqual(oracle.product(common, flipped), self.trimmed(row))
                self.assertEqual(oracle.product(common, oracle.mirror(flipped), (factor,)), self.trimmed(other))
                a, b = oracle.number(factor)
                self.assertEqual(a * a + b * b, 1)
        self.assertEqual(met, {True, False})

    def trimmed(self, row):
        row = oracle.line(row)
        return oracle.line(row[::-1])[::-1]

    def test_never(self):
        dice, met = random.Random(212), set()
        for _ in range(150):
            row, other = self.rows(dice)
            arc = dice.choice(ARCS)
            claim, paper = self.told(certify_never, row, other, arc)
            signs = oracle.sign_row(oracle.summed(oracle.lags(row), oracle.lags(other), -1), arc)
            met.add(claim[0])
            self.assertEqual(claim[0], "more" if 1 in signs else "never more")
            if 1 in signs:
                self.assertTrue(is_on(arc, paper))
                self.assertGreater(oracle.power(row, paper), oracle.power(other, paper))
        self.assertEqual(met, {"never more", "more"})

    def test_more_in_a_narrow_piece(self):
        # 2 + 2 cos is above 1 from the arc's end to where the cosine is - 1 / 2, and the end is hardly ahead of this
        arc = (oracle.pair(EDGE - Fraction(1, 10 ** 70)), "half")
        claim, paper = self.told(certify_never, PAIR, LONE, arc)
        self.assertEqual(claim[0], "more")
        arc = (oracle.pair(EDGE + Fraction(1, 10 ** 70)), "half")
        self.assertEqual(self.told(certify_never, PAIR, LONE, arc)[0][0], "never more")
        # the power touches what it is not above
        touch = (((1, 1), (0, 1)), LESS)
        for turn in SPOTS:
            row = steered((real(1, 10 ** 50),), turn)
            self.assertEqual(self.told(certify_never, row, steered(touch, turn), "all")[0][0], "more")
            self.assertEqual(self.told(certify_never, steered(touch, turn), (TWO,), "all")[0][0], "never more")

    def test_nulls(self):
        dice = random.Random(213)
        for row in FACTORS + [some_row(dice) for _ in range(60)]:
            arc, turn = dice.choice(ARCS), dice.choice(SPOTS)
            claim, paper = self.told(certify_nulls, row, arc)
            self.assertEqual((claim[3], paper), (oracle.sign_row(oracle.lags(row), arc).count(0), ()))
            for count in (claim[3] + 1, claim[3] - 1):
                self.assertIs(accepts(claim[:3] + (count,), ()), False)
            claim, paper = self.told(certify_null, row, turn)
            self.assertEqual((claim[0], paper), ("null" if oracle.power(row, turn) == 0 else "heard there", ()))


class Wishes(Certificates):
    def test_any(self):
        dice, met = random.Random(214), set()
        for _ in range(120):
            lags = some_lags(dice)[:8]
            claim, paper = self.told(certify_wish, lags)
            dark = -1 in oracle.sign_row(lags, "all")
            met.add(dark)
            self.assertEqual(claim[0], "dark" if dark else "wished")
            if dark:
                self.assertLess(oracle.value(lags, paper), 0)
            else:
                total = ((0, 1), (0, 1)),
                for weight, row in paper:
                    total = oracle.summed(total, oracle.lags(row), oracle.fraction(weight))
                self.assertEqual(oracle.line(total), oracle.line(lags))
        self.assertEqual(met, {True, False})

    def test_just_touching(self):
        for lags in (ROOT_TWO, THIRD, OPPOSITE, times(ROOT_TWO, ROOT_TWO), times(THIRD, THIRD), times(FOURTH, FOURTH),
                     WAVE, (NIL,), (NIL,) * 8, (ONE,)):
            for off in (0, 1, -1):
                bent = lags_sum(lags, (real(off, 10 ** 40) if off else NIL,))
                claim, _ = self.told(certify_wish, bent)
                self.assertEqual(claim[0], "dark" if -1 in oracle.sign_row(bent, "all") else "wished")


class Sure(Certificates):
    def slacks(self, dice, row):
        return tuple(oracle.pair(Fraction(dice.choice([0, 0, 1, 1, 2, 5]), dice.choice([1, 3, 10]))) for _ in row)

    def is_right(self, row, slacks, arc, level):
        claim, paper = self.told(certify_sure, row, slacks, arc, level)
        room = oracle.fraction(level) - sum(oracle.fraction(slack) for slack in slacks)
        sure = room >= 0 and 1 not in oracle.sign_row(power_less(row, room * room), arc)
        self.assertEqual(claim[0], "sure" if sure else "unsure")
        if not sure:
            turn, errors = paper
            self.assertTrue(is_on(arc, turn) and len(errors) == len(row))
            feeds = []
            for feed, error, slack in zip(row, errors, slacks):
                a, b = oracle.number(error)
                self.assertLessEqual(a * a + b * b, oracle.fraction(slack) ** 2)
                c, d = oracle.number(feed)
                feeds.append(oracle.told((a + c, b + d)))
            self.assertGreater(oracle.power(tuple(feeds), turn), oracle.fraction(level) ** 2)
        return claim[0]

    def test_any(self):
        dice, met = random.Random(215), set()
        for _ in range(200):
            row = some_row(dice)
            level = oracle.pair(Fraction(dice.randint(0, 60), dice.choice([1, 2, 7, 10])))
            met.add(self.is_right(row, self.slacks(dice, row), dice.choice(ARCS), level))
        self.assertEqual(met, {"sure", "unsure"})

    def test_just_missed(self):
        little = Fraction(1, 10 ** 80)
        for slacks in (((1, 4), (1, 4)), ((0, 1), (1, 2)), ((0, 1), (0, 1)), ((7, 1), (1, 3))):
            most = sum(oracle.fraction(slack) for slack in slacks)
            for turn in SPOTS:
                row = steered(PAIR, turn)
                self.assertEqual(self.is_right(row, slacks, "all", oracle.pair(2 + most)), "sure")
                self.assertEqual(self.is_right(row, slacks, "all", oracle.pair(2 + most - little)), "unsure")
        # the size on this arc is at most the root of 2, which is told by no fraction, and so is its angle there
        for level, word in [(Fraction(99, 70), "sure"), (Fraction(140, 99), "unsure"), (Fraction(577, 408), "sure"),
                            (Fraction(14142135623730950488, 10 ** 19), "unsure")]:
            self.assertEqual(self.is_right(PAIR, ((1, 4), (1, 3)), OVER, oracle.pair(level + Fraction(7, 12))), word)

    def test_levels_below_the_slacks(self):
        for row in (PAIR, STEEP, (I, LESS), whole(1, -1, 1)):
            for arc in ("all", BOW, OVER, ("half", (0, 1)), ((0, 1), "half")):
                slacks = ((1, 1),) * len(row)
                for level in ((0, 1), (1, 2), (len(row) - 1, 1), (len(row), 1)):
                    self.is_right(row, slacks, arc, level)

    def test_where_nothing_is_sent(self):
        # on this arc only errors send anything, and just as much as is wanted
        row = whole(1, 2, 1)
        for at in (10 ** 3, 10 ** 30):
            arc = ((at, 1), (-at, 1))
            self.is_right(row, ((0, 1), (0, 1), (1, 1)), arc, (1, 1))
            self.is_right(row, ((0, 1), (0, 1), (1, 1)), arc, (99, 100))
            self.is_right(row, ((0, 1), (0, 1), (0, 1)), arc, (0, 1))

    def test_numbers_of_any_size(self):
        far = turn_times((4, 5), 30)
        row = steered((real(HUGE), ((1, 7), (1, HUGE))), far)
        self.assertEqual(self.is_right(row, ((1, HUGE), (0, 1)), "all", (HUGE, 1)), "unsure")
        self.assertEqual(self.is_right(row, ((1, HUGE), (0, 1)), "all", (HUGE + 1, 1)), "sure")


class Bearings(Certificates):
    def test_any(self):
        dice, met = random.Random(216), set()
        for _ in range(250):
            row, arc = some_row(dice, 4), dice.choice(ARCS)
            other = dice.choice([some_row(dice, 4), fed(row, TWO), mirrored(row)])
            if 0 in oracle.sign_row(oracle.lags(row), arc):
                with self.assertRaises(Silent):
                    certify_bearing(row, other, arc)
                continue
            claim, paper = self.told(certify_bearing, row, other, arc)
            p, q = oracle.lags(row), oracle.lags(other)
            growth = oracle.summed(oracle.convolved(oracle.slope(q), p), oracle.convolved(q, oracle.slope(p)), -1)
            signs = oracle.sign_row(growth, arc)
            wanted = "tells"
            if signs == (0,):
                wanted = "same reading"
            elif arc == "all" or (1 in signs and -1 in signs):
                wanted = "folds"
            met.add(wanted)
            self.assertEqual(claim[0], wanted)
            if wanted == "folds":
                first, middle, last = [oracle.power(other, turn) / oracle.power(row, turn) for turn in paper]
                self.assertTrue((first < middle > last) or (first > middle < last))
                self.assertTrue(all(is_on(arc, turn) for turn in paper))
        self.assertEqual(met, {"tells", "folds", "same reading"})

    def test_folds_in_a_narrow_piece(self):
        for many in (3, 30, 300):
            arc = ((-1, 10 ** many + 7), (1, 10 ** many))
            self.assertEqual(self.told(certify_bearing, LONE, PAIR, arc)[0][0], "folds")
            self.assertEqual(self.told(certify_bearing, LONE, steered(PAIR, "half"), ((10 ** many, 1), (-1, 1)))[0][0],
                             "folds")
            self.assertEqual(self.told(certify_bearing, LONE, PAIR, ((0, 1), (1, 10 ** many)))[0][0], "tells")
            self.assertEqual(self.told(certify_bearing, LONE, PAIR, ((-1, 10 ** many), (0, 1)))[0][0], "tells")


class Silences(Certificates):
    def test_any(self):
        dice, met = random.Random(217), set()
        for _ in range(150):
            row, count, arc = some_row(dice, 6), dice.choice([0, 1, 2]), dice.choice(ARCS)
            level = oracle.pair(Fraction(dice.randint(0, 90), dice.choice([1, 2, 3, 10])))
            claim, paper = self.told(certify_silence, row, count, arc, level)
            met.add((count, claim[0]))
            if claim[0] == "may pass":
                indexes, turn = paper
                self.assertEqual(len(indexes), min(count, len(row)))
                feeds = tuple(NIL if k in indexes else feed for k, feed in enumerate(row))
                self.assertGreater(oracle.power(feeds, turn), oracle.fraction(level))
            else:
                for one in range(len(row)):
                    for two in range(one, len(row)):
                        silent = [(), (one,), (one, two)][count]
                        if len(set(silent)) == min(count, len(row)):
                            feeds = tuple(NIL if k in silent else feed for k, feed in enumerate(row))
                            self.assertNotIn(1, oracle.sign_row(power_less(feeds, oracle.fraction(level)), arc))
        self.assertEqual(len(met), 6)

    def test_fewer_masts_than_are_silent(self):
        for count in (1, 2):
            self.assertEqual(self.told(certify_silence, LONE, count, "all", (0, 1))[0][0], "stays below")
        self.assertEqual(self.told(certify_silence, PAIR, 2, BOW, (0, 1))[0][0], "stays below")
        self.assertEqual(self.told(certify_silence, LONE, 0, BOW, (0, 1))[1][0], ())

    def test_just_met(self):
        for turn in SPOTS:
            row = steered(TRIPLE, turn)
            self.assertEqual(self.told(certify_silence, row, 1, "all", (4, 1))[0][0], "stays below")
            claim, paper = self.told(certify_silence, row, 1, "all", (4 * 10 ** 60 - 1, 10 ** 60))
            self.assertEqual((claim[0], len(paper[0])), ("may pass", 1))


class Waves(Certificates):
    def test_any(self):
        dice, met = random.Random(218), set()
        for _ in range(150):
            lags = oracle.waves(some_lot(dice), dice.randint(1, 8))
            if dice.random() < 0.5:
                at = dice.randrange(len(lags))
                plain, size = oracle.number(lags[at]), 10 ** dice.choice([0, 1, 50])
                moved = plain[0] + Fraction(dice.choice([1, -1]), size), plain[1]
                lags = lags[:at] + (oracle.told(moved),) + lags[at + 1:]
            rank = oracle.table_rank(lags)
            claim, paper = self.told(certify_waves, lags)
            met.add(claim[0])
            self.assertEqual(claim[0], "barred" if rank is None else "of waves")
            if rank is None:
                self.assertTrue(is_row(paper) and len(paper) <= len(lags))
                self.assertLess(oracle.heard(lags, paper), 0)
                with self.assertRaises(NotAbove):
                    certify_rank(lags)
            else:
                claim, paper = self.told(certify_rank, lags)
                self.assertEqual(claim, ("rank", lags, rank))
                self.assertIs(accepts(("rank", lags, rank + 1), ()), False)
        self.assertEqual(met, {"of waves", "barred"})

    def test_of_the_edges(self):
        for lags in LAGS + [THIRDS, SKEW, (NIL,) * 8, (ONE,) * 8]:
            self.assertEqual(self.told(certify_waves, lags)[0][0],
                             "barred" if oracle.table_rank(lags) is None else "of waves")


class Points(Certificates):
    def test_any(self):
        dice = random.Random(219)
        for _ in range(60):
            many = dice.randint(1, 8)
            turns = dice.sample(SPOTS, dice.randint(1, many))
            points = tuple((turn, dice.choice([NIL, ONE, some_number(dice)])) for turn in turns)
            if all(number == NIL for _, number in points):
                with self.assertRaises(NoRow):
                    certify_best(many, points)
                continue
            claim, paper = self.told(certify_best, many, points)
            self.assertEqual((claim[3], paper), (row_through(many, points), multipliers(many, points)))
            for turn, number in points:
                self.assertEqual(oracle.told(oracle.sent(claim[3], turn)), number)

    def test_no_rows(self):
        for many, points in [(1, EIGHT), (7, EIGHT), (3, EIGHT[:4]), (2, (((0, 1), NIL),)),
                             (8, (("half", NIL), ((0, 1), NIL)))]:
            with self.assertRaises(NoRow) as caught:
                certify_best(many, points)
            self.assertEqual(vars(caught.exception), {})
        self.told(certify_best, 8, EIGHT)

    def test_gain(self):
        dice = random.Random(220)
        for _ in range(40):
            row, turn = some_row(dice), dice.choice(SPOTS)
            claim, _ = self.told(certify_gain, row, turn)
            self.assertEqual(claim[3], gain(row, turn))
            self.assertEqual(oracle.fraction(claim[3]) * oracle.fraction(oracle.lags(row)[0][0]),
                             oracle.power(row, turn))

    def test_lobe(self):
        for many in range(1, 9):
            for edge in ((1, 1), (3, 4), (1, HUGE), (HUGE, 7)):
                claim, paper = self.told(certify_lobe, many, edge)
                self.assertEqual((claim[3], paper), (least_lobe(many, edge), ()))


class Loops(Certificates):
    def test_any(self):
        dice, met = random.Random(221), set()
        for _ in range(100):
            row = some_row(dice)
            claim, paper = self.told(certify_split, row)
            self.assertEqual((claim[2], paper), (zeros_split(row), ()))
            if row[0] != NIL:
                claim, paper = self.told(certify_life, row)
                met.add(claim[0])
                self.assertEqual(claim[0], "dies away" if dies_away(row) else "stays")
                self.assertIs(claim[0] == "dies away", oracle.stays_inside(row[::-1]))
        self.assertEqual(met, {"dies away", "stays"})


class Whole(Certificates):
    def test_names_of_parameters(self):
        for function, names in [
                (certify_power, "row other"), (certify_like, "row other"), (certify_never, "row other arc"),
                (certify_null, "row turn"), (certify_nulls, "row arc"), (certify_wish, "lags"),
                (certify_sure, "row slacks arc level"), (certify_bearing, "row other arc"),
                (certify_silence, "row count arc level"), (certify_waves, "lags"), (certify_rank, "lags"),
                (certify_best, "many points"), (certify_gain, "row turn"), (certify_lobe, "many edge"),
                (certify_life, "row"),
                (certify_split, "row")]:
            self.assertEqual(" ".join(inspect.signature(function).parameters), names)
            self.assertEqual(function.__module__, "mastrows.certificates")

    def test_by_name(self):
        self.assertEqual(certify_never(arc="all", other=STEEP, row=PAIR), certify_never(PAIR, STEEP, "all"))
        self.assertEqual(certify_sure(level=(5, 2), arc=BOW, slacks=((1, 4), (1, 4)), row=PAIR)[0][0], "sure")
        self.assertEqual(certify_like(other=FLAT, row=STEEP)[0][0], "like")

    def test_of_what_was_told(self):
        # what the package told, whatever its size, may be passed to it
        far = turn_times((7, 9), 60)
        row = steered(whole(1, 2, 3, 1), far)
        for arguments in [(certify_power, row, mirrored(row)), (certify_like, row, mirrored(row)), (certify_split, row),
                          (certify_nulls, row, ((0, 1), far)), (certify_null, row, far), (certify_life, row),
                          (certify_never, row, whole(1, 2, 3, 1), ((0, 1), far)), (certify_gain, row, far),
                          (certify_waves, oracle.lags(row)), (certify_wish, lags_times(oracle.lags(row), (1, HUGE))),
                          (certify_best, 3, ((far, HALF), ((1, 2), I))),
                          (certify_sure, row, ((1, 2),) * 4, (far, "half"), (6, 1)),
                          (certify_silence, row, 1, (far, "half"), (16, 1))]:
            self.told(*arguments)
