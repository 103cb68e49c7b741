"""Points 18 and 19: feeds that are off."""

import random
import unittest
from fractions import Fraction
from itertools import product

import oracle
from helpers import CONTENTS, HUGE, I, LESS, NIL, ONE, TWO, real
from mastrows.makers import even_row, steered
from mastrows.rows import more_at, never_more
from mastrows.slacks import (may_be_silent, silent_errors, slack_floor, surely_above, surely_below, surely_no_more)
from mastrows.turns import is_on, turn_times, turned_arc
from samples import ARCS, FACTORS, SPOTS, some_row, whole

PAIR = (ONE, ONE)
BOW = ((0, 1), (1, 1))
OVER_HALF = ((1, 1), (-1, 1))
ARCS_HERE = ["all", BOW, OVER_HALF, ("half", (0, 1)), ((-1, 2), (1, 3)), ((1, 3), (-1, 2)), ((2, 1), "half")]


def even_slacks(row, top, bottom=1):
    return (oracle.pair(Fraction(top, bottom)),) * len(row)


def some_slacks(dice, row):
    return tuple(oracle.pair(Fraction(dice.choice([0, 0, 1, 1, 2, 5]), dice.choice([1, 3, 10]))) for _ in row)


def less_square(row, size):
    """The lags of the power less the square of a size."""
    return oracle.summed(oracle.lags(row), (oracle.told((size * size, 0)),), -1)


class SurelyBelow(unittest.TestCase):
    def test_of_the_document(self):
        quarters = ((1, 4), (1, 4))
        self.assertEqual([surely_below(PAIR, quarters, BOW, level) for level in ((5, 2), (2, 1), (1, 4))],
                         [True, False, False])

    def test_just_met(self):
        for slacks, total in [(((0, 1), (0, 1)), 0), (((1, 3), (1, 6)), Fraction(1, 2)), (((0, 1), (7, 1)), 7)]:
            for arc in ("all", BOW, ((-1, 1), (1, 1)), ("half", (0, 1))):
                level = 2 + total
                self.assertIs(surely_below(PAIR, slacks, arc, oracle.pair(level)), True)
                self.assertIs(surely_below(PAIR, slacks, arc, oracle.pair(level + Fraction(1, HUGE))), True)
                self.assertIs(surely_below(PAIR, slacks, arc, oracle.pair(level - Fraction(1, HUGE))), False)
            # on this arc the power is at most 2, which is the square of no fraction
            for level, below in [(Fraction(99, 70), True), (Fraction(140, 99), False), (Fraction(577, 408), True)]:
                self.assertIs(surely_below(PAIR, slacks, OVER_HALF, oracle.pair(level + total)), below)

    def test_a_level_below_the_slacks(self):
        # the square of the level less the slacks is great, but the level is below them
        self.assertIs(surely_below(PAIR, ((5, 1), (5, 1)), "all", (1, 1)), False)
        self.assertIs(surely_below(PAIR, ((5, 1), (5, 1)), "all", (0, 1)), False)
        self.assertIs(surely_below(PAIR, ((5, 1), (5, 1)), BOW, (12, 1)), True)
        self.assertIs(surely_below(PAIR, ((5, 1), (5, 1)), BOW, (10, 1)), False)
        self.assertIs(surely_below((ONE,), ((1, 1),), "all", (1, 2)), False)
        self.assertIs(surely_below((ONE,), ((1, 1),), "all", (2, 1)), True)

    def test_nothing_but_the_slacks_is_left(self):
        for arc in ARCS_HERE:
            self.assertIs(surely_below(PAIR, ((0, 1), (0, 1)), arc, (0, 1)), False)
            self.assertIs(surely_below(PAIR, ((1, 2), (1, 2)), arc, (1, 1)), False)

    def test_against_the_signs(self):
        dice = random.Random(80)
        for _ in range(60):
            row, arc = some_row(dice, 5), dice.choice(ARCS)
            slacks, level = some_slacks(dice, row), Fraction(dice.randint(0, 30), dice.choice([1, 2, 4]))
            room = level - sum(Fraction(*slack) for slack in slacks)
            wanted = room >= 0 and 1 not in oracle.sign_row(less_square(row, room), arc)
            self.assertIs(surely_below(row, slacks, arc, oracle.pair(level)), wanted, (row, slacks, arc, level))

    def test_no_errors_are_beyond(self):
        dice = random.Random(81)
        for _ in range(40):
            row, arc = some_row(dice, 5), dice.choice(ARCS_HERE)
            slacks = some_slacks(dice, row)
            total = sum(Fraction(*slack) for slack in slacks)
            for level in (Fraction(1), Fraction(3), Fraction(6), 2 * total + 4):
                below = surely_below(row, slacks, arc, oracle.pair(level))
                above = surely_above(row, slacks, arc, oracle.pair(level))
                for turn in [turn for turn in SPOTS if is_on(arc, turn)]:
                    errors = [self.error(dice, slack) for slack in slacks]
                    feeds = [oracle.number(feed) for feed in row]
                    off = tuple(oracle.told((a + c, b + d)) for (a, b), (c, d) in zip(feeds, errors))
                    power = oracle.power(off, turn)
                    self.assertFalse(below and power > level * level)
                    self.assertFalse(above and power <= level * level)
                    self.assertFalse(below and above)

    def error(self, dice, slack):
        real_part, side = oracle.point(dice.choice(SPOTS))
        size = Fraction(*slack) * dice.choice([0, 1, 1, Fraction(1, 2)])
        return real_part * size, side * size


class SurelyAbove(unittest.TestCase):
    def test_of_the_document(self):
        quarters = ((1, 4), (1, 4))
        self.assertEqual([surely_above(PAIR, quarters, BOW, level) for level in ((0, 1), (1, 1))], [True, False])

    def test_just_met(self):
        # on this arc the size is at least 6 / 5
        arc = ((0, 1), (4, 3))
        for slacks, total in [(((0, 1), (0, 1)), 0), (((1, 10), (1, 10)), Fraction(1, 5)), (((1, 1), (0, 1)), 1)]:
            level = Fraction(6, 5) - total
            self.assertIs(surely_above(PAIR, slacks, arc, oracle.pair(level)), False)
            self.assertIs(surely_above(PAIR, slacks, arc, oracle.pair(level - Fraction(1, HUGE))), True)
            self.assertIs(surely_above(PAIR, slacks, "all", oracle.pair(level - Fraction(1, HUGE))), False)

    def test_nulls(self):
        still = ((0, 1), (0, 1))
        for arc, above in [("all", False), (BOW, True), (OVER_HALF, False), (((0, 1), "half"), False),
                           (("half", (0, 1)), False), (((0, 1), (HUGE, 1)), True)]:
            self.assertIs(surely_above(PAIR, still, arc, (0, 1)), above)
        for arc in ARCS_HERE:
            self.assertIs(surely_above((TWO, ONE), still, arc, (0, 1)), True)
            self.assertIs(surely_above((TWO, ONE), ((1, 2), (1, 2)), arc, (0, 1)), arc in (BOW, ((-1, 2), (1, 3))))

    def test_against_the_signs(self):
        dice = random.Random(82)
        for _ in range(60):
            row, arc = some_row(dice, 5), dice.choice(ARCS)
            slacks, level = some_slacks(dice, row), Fraction(dice.randint(0, 8), dice.choice([2, 5, 10]))
            reach = level + sum(Fraction(*slack) for slack in slacks)
            wanted = oracle.sign_row(less_square(row, reach), arc) == (1,)
            self.assertIs(surely_above(row, slacks, arc, oracle.pair(level)), wanted, (row, slacks, arc, level))


class Silence(unittest.TestCase):
    def holds(self, row, slacks, turn):
        total = sum(Fraction(*slack) for slack in slacks)
        can = oracle.power(row, turn) <= total * total
        self.assertIs(may_be_silent(row, slacks, turn), can, (row, slacks, turn))
        errors = silent_errors(row, slacks, turn)
        if not can:
            self.assertIsNone(errors)
            return
        self.assertEqual(len(errors), len(row))
        for error, slack in zip(errors, slacks):
            real_part, side = oracle.number(error)
            self.assertEqual(oracle.told((real_part, side)), error)
            self.assertLessEqual(real_part ** 2 + side ** 2, Fraction(*slack) ** 2)
        with_them = tuple(oracle.told((a + c, b + d)) for (a, b), (c, d) in
                          zip([oracle.number(feed) for feed in row], [oracle.number(error) for error in errors]))
        self.assertEqual(oracle.sent(with_them, turn), (0, 0))
        if oracle.power(row, turn) == 0:
            self.assertEqual(errors, (NIL,) * len(row))

    def test_of_the_document(self):
        quarters = ((1, 4), (1, 4))
        self.assertEqual([may_be_silent(PAIR, quarters, "half"), may_be_silent(PAIR, quarters, (0, 1))], [True, False])

    def test_without_slacks(self):
        for row in (PAIR, (ONE, LESS), even_row(8), (TWO, ONE), (NIL, I)):
            for turn in SPOTS:
                self.holds(row, even_slacks(row, 0), turn)

    def test_just_met(self):
        # 2 is sent toward 0, 6 / 5 toward 4 / 3
        for turn, size in [((0, 1), Fraction(2)), ((4, 3), Fraction(6, 5)), ((-4, 3), Fraction(6, 5))]:
            for share in (0, Fraction(1, 3), Fraction(1, 2), 1):
                met = oracle.pair(size * share), oracle.pair(size * (1 - share))
                self.assertIs(may_be_silent(PAIR, met, turn), True)
                self.holds(PAIR, met, turn)
                short = oracle.pair(size * share), oracle.pair(max(0, size * (1 - share) - Fraction(1, HUGE)))
                self.holds(PAIR, short, turn)
                self.assertIs(may_be_silent(PAIR, short, turn), share == 1)

    def test_any(self):
        dice = random.Random(83)
        for _ in range(100):
            row = some_row(dice)
            slacks = some_slacks(dice, row)
            for turn in SPOTS[::2]:
                self.holds(row, slacks, turn)

    def test_any_size(self):
        far = turn_times((8, 9), 60)
        row = steered(whole(1, 1, 1), far)
        for turn in (far, turn_times(far, 2), (HUGE, 1)):
            self.holds(row, ((1, HUGE), (0, 1), (3, 1)), turn)
            self.holds(row, ((1, HUGE), (0, 1), (1, 3)), turn)


class NoMore(unittest.TestCase):
    def wanted(self, row, slacks, other, others, arc):
        """As point 19 says it."""
        off = sum(Fraction(*slack) for slack in slacks + others)
        first, second = oracle.lags(row), oracle.lags(other)
        beyond = oracle.summed(oracle.summed(second, first, -1), (oracle.told((off * off, 0)),), -1)
        if -1 in oracle.sign_row(beyond, arc):
            return False
        square = oracle.summed(oracle.convolved(beyond, beyond), first, -4 * off * off)
        return -1 not in oracle.sign_row(square, arc)

    def test_of_the_document(self):
        tenths = ((1, 10), (1, 10))
        self.assertEqual([surely_no_more((ONE,), ((1, 10),), PAIR, tenths, BOW),
                          surely_no_more((ONE,), ((1, 5),), PAIR, ((1, 5), (1, 5)), BOW)], [True, False])

    def test_without_slacks(self):
        for row, other in product([PAIR, (TWO,), whole(1, 1, 1), (NIL, ONE)], repeat=2):
            for arc in ARCS_HERE:
                wanted = never_more(row, other, arc)
                self.assertIs(surely_no_more(row, even_slacks(row, 0), other, even_slacks(other, 0), arc), wanted)
                self.assertIs(wanted, more_at(row, other, arc) is None)

    def test_just_met(self):
        # 2 and 3: just 1 is between them
        for share in (0, Fraction(1, 3), 1):
            for gap, no_more in [(Fraction(1), True), (1 + Fraction(1, HUGE), False), (1 - Fraction(1, HUGE), True)]:
                slacks = ((oracle.pair(share * gap),), (oracle.pair((1 - share) * gap), (0, 1)))
                for arc in ("all", BOW):
                    self.assertIs(surely_no_more((TWO,), slacks[0], (real(3), NIL), slacks[1], arc), no_more)

    def test_the_square_alone_is_not_enough(self):
        # E is below 0, its square is great
        self.assertIs(surely_no_more((real(9),), ((1, 10),), (ONE,), ((0, 1),), "all"), False)
        self.assertIs(surely_no_more((ONE,), ((9, 1),), (ONE,), ((9, 1),), BOW), False)

    def test_nulls_of_the_first_row(self):
        # toward half nothing is sent: there E E is enough, and E is (1 - D D)
        for gap, no_more in [(1, False), (Fraction(1, 2), False), (0, False)]:
            self.assertIs(surely_no_more(PAIR, even_slacks(PAIR, gap, 2), (ONE,), ((0, 1),), "all"), no_more)
        near = (("half"), (-10, 1))
        self.assertIs(surely_no_more(PAIR, even_slacks(PAIR, 1, 8), (ONE,), ((1, 8),), near), True)
        self.assertIs(surely_no_more(PAIR, even_slacks(PAIR, 1, 8), (ONE,), ((1, 8),), ((1, 10), "half")), False)

    def test_against_the_signs(self):
        dice, met = random.Random(84), []
        for _ in range(40):
            row, other, arc = some_row(dice, 3), some_row(dice, 4), dice.choice(ARCS)
            if dice.random() < 0.5:
                other = tuple(oracle.told((4 * a, 4 * b)) for a, b in [oracle.number(feed) for feed in other])
            slacks, others = some_slacks(dice, row), some_slacks(dice, other)
            if dice.random() < 0.5:
                slacks = even_slacks(row, 1, 50)
                others = even_slacks(other, 1, 50)
            wanted = self.wanted(row, slacks, other, others, arc)
            met.append(wanted)
            self.assertIs(surely_no_more(row, slacks, other, others, arc), wanted, (row, slacks, other, others, arc))
        self.assertTrue(5 < sum(met) < 35, sum(met))

    def test_eight_masts(self):
        loud = whole(9, 1, 0, 1, 0, 0, 1, 1)
        self.assertIs(surely_no_more((ONE,) + (NIL,) * 7, even_slacks(loud, 1, 10), loud, even_slacks(loud, 1, 10), "all"), True)
        self.assertIs(surely_no_more(loud, even_slacks(loud, 1, 10), even_row(8), even_slacks(loud, 0), "all"), False)
        self.assertIs(surely_no_more(even_row(8), even_slacks(loud, 0), even_row(8), even_slacks(loud, 0), "all"), True)


class SlackFloor(unittest.TestCase):
    def just(self, row, arc, level, parts):
        k = slack_floor(row, arc, level, parts)
        if k is None:
            self.assertIs(surely_below(row, even_slacks(row, 0), arc, level), False)
        else:
            self.assertGreaterEqual(k, 0)
            self.assertIs(surely_below(row, even_slacks(row, k, parts), arc, level), True)
            self.assertIs(surely_below(row, even_slacks(row, k + 1, parts), arc, level), False)
        return k

    def test_of_the_document(self):
        self.assertEqual([slack_floor(PAIR, BOW, (3, 1), 10), slack_floor(PAIR, BOW, (1, 1), 10)], [5, None])

    def test_by_hand(self):
        for level, parts, k in [((2, 1), 1, 0), ((2, 1), 1000000, 0), ((3, 1), 1, 0), ((4, 1), 1, 1), ((4, 1), 7, 7),
                                ((2 * HUGE - 1, HUGE), 1000000, None), ((2 * HUGE + 1, HUGE), 1000000, 0), ((0, 1), 1, None),
                                ((9, 4), 8, 1), ((9, 4), 7, 0), ((HUGE, 1), 1, (HUGE - 2) // 2)]:
            for arc in ("all", BOW, ((-1, 1), (1, 1))):
                self.assertEqual(slack_floor(PAIR, arc, level, parts), k, (level, parts))
        # at most the root of 2 on this arc
        self.assertEqual([slack_floor(PAIR, OVER_HALF, (2, 1), parts) for parts in (1, 10, 1000000)], [0, 2, 292893])
        self.assertEqual([slack_floor((I,), arc, (3, 1), 10) for arc in ARCS_HERE], [20] * 7)
        self.assertEqual([slack_floor(even_row(8), "all", level, 10) for level in ((8, 1), (16, 1), (79, 10))], [0, 10, None])

    def test_just_enough(self):
        dice = random.Random(85)
        for _ in range(80):
            row, arc = some_row(dice), dice.choice(ARCS)
            self.just(row, arc, dice.choice(CONTENTS[:3] + [(5, 2), (7, 1), (40, 3)]), dice.choice([1, 2, 10, 1000000]))
        for row, arc in product(FACTORS, ARCS_HERE):
            self.just(row, arc, (7, 2), 100)

    def test_any_size(self):
        far = turn_times((8, 9), 60)
        for row in (whole(1, 1, 1), whole(2, 1)):
            for level in ((3, 1), (22, 7)):
                self.assertEqual(self.just(steered(row, far), "all", level, 1000), slack_floor(row, "all", level, 1000))
                self.assertEqual(self.just(steered(row, far), turned_arc(BOW, far), level, 1000),
                                 slack_floor(row, BOW, level, 1000))
        self.just((real(HUGE), I), BOW, (2 * HUGE, 1), 1000000)
