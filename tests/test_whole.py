"""Points 1 to 5 over the whole program, and what goes across its parts."""

import copy
import random
import unittest
from fractions import Fraction

import oracle
from helpers import HALF, HUGE, I, LESS, NIL, ONE, TWO, Touchy, real
from mastrows import errors
from mastrows.bearings import tells_turn, turn_floor, turn_side, word_of_reading
from mastrows.certificates import certify_sure, certify_wish
from mastrows.checker import accepts
from mastrows.consoles import Console
from mastrows.likes import like_parts, rows_of_power, same_power
from mastrows.lobes import least_lobe, lobe_row
from mastrows.loops import dies_away, is_quickest, zeros_split
from mastrows.makers import fed, joined_rows, mirrored, row_of_rows, spread, steered
from mastrows.nexts import guess_error, guess_row, lags_from, mirrors_of, next_disc
from mastrows.patterns import (greatest_floor, lags_sum, lags_times, least_floor, pattern_at, signs_on, turned_lags,
                               zeros_on)
from mastrows.points import gain, least_hearing, noise_of, row_through
from mastrows.rows import is_null, lags_of, lobes_of, mean_power, never_more, nulls_on, power_at, sent
from mastrows.silences import stays_below, without, worst_silence
from mastrows.slacks import silent_errors, slack_floor, surely_above, surely_below
from mastrows.tables import comes_of_waves, heard, most_from, silent_row, wave_lags, wave_rank, waves_on
from mastrows.turns import is_on, joined_turns, point_of, turn_times, turned_arc
from mastrows.wishes import dark_turn, is_wished, least_raise, rows_for
from mastrows.workshops import Workshop
from samples import ARCS, SPOTS, some_lags, some_number, some_row, whole
from test_refusals import FUNCTIONS, SORTS, answer, fair

PAIR, STEEP, FLAT = (ONE, ONE), (TWO, ONE), (NIL, ONE, TWO)


def rebuilt(value):
    """An equal value that is not the same."""
    if isinstance(value, (tuple, list)):
        return value.__class__(rebuilt(part) for part in list(value))
    return "".join(list(value)) if isinstance(value, str) else value


def below(row, level):
    """The lags of the power less a level."""
    return lags_sum(lags_of(row), (oracle.told((-Fraction(level), 0)),))


class Conventions(unittest.TestCase):
    def test_what_is_told_is_made_of_tuples_and_whole_numbers(self):
        def plain(value):
            if isinstance(value, tuple):
                return all(plain(part) for part in value)
            return value is None or isinstance(value, (bool, str)) or value.__class__ is int

        for function, parameters in FUNCTIONS:
            told = answer(function, *fair(parameters))
            self.assertTrue(plain(told) or told in (errors.Silent, errors.NotAbove, errors.TooManyMasts, errors.NoRow))

    def test_nothing_passed_is_changed(self):
        for function, parameters in FUNCTIONS:
            arguments = fair(parameters)
            kept = copy.deepcopy(arguments)
            answer(function, *arguments)
            self.assertEqual(arguments, kept)
        # lists are refused, and stay as they are
        given = [ONE, TWO]
        for function, parameters in FUNCTIONS:
            for k in range(len(parameters)):
                arguments = fair(parameters)
                arguments[k] = given
                with self.assertRaises(SORTS[parameters[k][1]][0]):
                    function(*arguments)
        self.assertEqual(given, [ONE, TWO])

    def test_equal_values_that_are_not_the_same(self):
        for function, parameters in FUNCTIONS:
            arguments = fair(parameters)
            again = rebuilt(arguments)
            self.assertEqual(answer(function, *arguments), answer(function, *again))

    def test_workshops_and_consoles(self):
        shop = Workshop()
        console = Console(shop)
        shop.put("a", PAIR)
        for _ in range(2):
            self.assertEqual((shop.names, shop.demands, shop.named("a"), len(shop)), (("a",), (), PAIR, 1))
            self.assertEqual([console.say(line) for line in ("names", "show a", "nulls a")], ["a", "1 0; 1 0", "1"])

    def test_objects(self):
        shop = Workshop()
        objects = [shop, Workshop(), Console(shop), Console(shop), shop.trial(), errors.Broken(1), errors.Broken(1),
                   errors.NoRow(), errors.NoRow(), errors.MastError(), errors.InvalidRow(Touchy())]
        for k, one in enumerate(objects):
            self.assertIs(bool(one), True)
            for j, other in enumerate(objects + [None, 0, True, "", (), [], {}, Touchy(), object()]):
                self.assertIs(one == other, k == j)
                self.assertIs(one != other, k != j)

    def test_classes_of_errors_stand_apart(self):
        classes = [value for value in vars(errors).values() if isinstance(value, type)]
        for one in classes:
            for other in classes:
                self.assertIs(issubclass(one, other), one is other or other is errors.MastError)
            self.assertEqual([base for base in one.__mro__ if base.__module__ == "builtins"],
                             [ValueError, Exception, BaseException, object])


class Directions(unittest.TestCase):
    def test_never_more_is_a_sign_row(self):
        dice = random.Random(230)
        for _ in range(60):
            row, other, arc = some_row(dice), some_row(dice), dice.choice(ARCS)
            between = lags_sum(lags_of(row), lags_times(lags_of(other), (-1, 1)))
            self.assertIs(never_more(row, other, arc), 1 not in signs_on(between, arc))

    def test_nulls_are_zeros_of_the_power(self):
        dice = random.Random(231)
        for _ in range(60):
            row, arc = some_row(dice), dice.choice(ARCS)
            self.assertEqual(nulls_on(row, arc), zeros_on(lags_of(row), arc))
            self.assertLessEqual(nulls_on(row, "all"), zeros_split(row)[1])
            self.assertEqual(nulls_on(row, "all") > 0, zeros_split(row)[1] > 0)
            for turn in SPOTS:
                self.assertIs(is_null(row, turn), power_at(row, turn) == (0, 1))
                self.assertEqual(power_at(row, turn), pattern_at(lags_of(row), turn))

    def test_turned_and_steered(self):
        dice = random.Random(232)
        for _ in range(40):
            row, turn, arc = some_row(dice), dice.choice(SPOTS), dice.choice(ARCS)
            there = steered(row, turn)
            self.assertEqual(nulls_on(there, turned_arc(arc, turn)), nulls_on(row, arc))
            self.assertEqual(lags_of(there), turned_lags(lags_of(row), turn))
            self.assertEqual(lobes_of(there), lobes_of(row))
            self.assertEqual(greatest_floor(lags_of(there), turned_arc(arc, turn), 100),
                             greatest_floor(lags_of(row), arc, 100))

    def test_rows_of_rows(self):
        dice = random.Random(233)
        for _ in range(40):
            row, other = some_row(dice, 2), some_row(dice, 4)
            made = row_of_rows(row, other)
            for turn in SPOTS:
                wide = turn_times(turn, len(other))
                self.assertEqual(oracle.fraction(power_at(made, turn)),
                                 oracle.power(row, wide) * oracle.power(other, turn))
            self.assertEqual(made, joined_rows(spread(row, len(other)), other))
            inside, on, outside = zeros_split(other)
            self.assertEqual(zeros_split(joined_rows(STEEP, other)), (inside, on, outside + 1))


class Powers(unittest.TestCase):
    def test_like_rows_are_counted(self):
        # with zeros off the circle, all unlike: each may be exchanged for its mirror image
        for zeros in ([TWO], [TWO, real(-3)], [TWO, ((0, 1), (3, 1)), ((1, 1), (1, 1))], [TWO, TWO],
                      [TWO, TWO, real(3), ONE]):
            row = (ONE,)
            for zero in zeros:
                row = joined_rows(row, ((oracle.told(tuple(-part for part in oracle.number(zero)))), ONE))
            others = {row}
            for zero in zeros:
                factor = (oracle.told(tuple(-part for part in oracle.number(zero))), ONE)
                more = set()
                for other in others:
                    parts = like_parts(other, other)
                    self.assertTrue(accepts(("like", other, other), parts))
                    quotient = divided(other, factor)
                    if quotient is not None:
                        more.add(joined_rows(quotient, mirrored(factor)))
                others |= more
            alike = []
            for other in others:
                self.assertTrue(same_power(row, other))
                if not any(is_multiple(other, one) for one in alike):
                    alike.append(other)
            self.assertEqual(rows_of_power(lags_of(row)), len(alike))

    def test_wished_patterns(self):
        dice = random.Random(234)
        for _ in range(40):
            lags = some_lags(dice)[:8]
            least = least_floor(lags, "all", 1000)
            self.assertIs(is_wished(lags), least >= 0)
            self.assertIs(dark_turn(lags) is None, least >= 0)
            self.assertEqual(least_raise(lags, 1000), max(0, -least))
            raised = lags_sum(lags, (oracle.told((Fraction(least_raise(lags, 1000), 1000), 0)),))
            self.assertIs(is_wished(raised), True)
            # powers come of waves, and the sum of their means is the first lag
            parts = rows_for(raised)
            self.assertEqual(sum(oracle.fraction(weight) * oracle.fraction(mean_power(row)) for weight, row in parts),
                             oracle.fraction(raised[0][0]))
            self.assertIs(comes_of_waves(raised), True)
            self.assertTrue(accepts(*certify_wish(raised)))


def divided(row, factor):
    """The row divided by a factor of two masts with the last feed 1; None if it does not divide it."""
    rest, out = [oracle.number(feed) for feed in row], []
    first = oracle.number(factor[0])
    while len(rest) > 1:
        top = rest.pop()
        out.insert(0, oracle.told(top))
        part = oracle.times(top, first)
        rest[-1] = rest[-1][0] - part[0], rest[-1][1] - part[1]
    return tuple(out) if rest[0] == (0, 0) else None


def is_multiple(row, other):
    """Whether a row is a multiple of another one, both trimmed."""
    if len(row) != len(other):
        return False
    a, b = oracle.number(row[0]), oracle.number(other[0])
    pairs = [(oracle.number(one), oracle.number(two)) for one, two in zip(row, other)]
    return all(oracle.times(one, b) == oracle.times(two, a) for one, two in pairs)


class Errors(unittest.TestCase):
    def test_slacks_and_floors(self):
        dice = random.Random(235)
        for _ in range(40):
            row, arc = some_row(dice, 5), dice.choice(ARCS)
            level, parts = oracle.pair(Fraction(dice.randint(0, 40), 3)), dice.choice([1, 10, 1000])
            k = slack_floor(row, arc, level, parts)
            for more, wanted in [(0, True), (1, False)]:
                if k is not None:
                    slacks = (oracle.pair(Fraction(k + more, parts)),) * len(row)
                    self.assertIs(surely_below(row, slacks, arc, level), wanted)
                    self.assertEqual(certify_sure(row, slacks, arc, level)[0][0], "sure" if wanted else "unsure")
            none = ((0, 1),) * len(row)
            self.assertIs(surely_below(row, none, arc, level), k is not None)
            square = oracle.pair(oracle.fraction(level) ** 2)
            self.assertIs(stays_below(row, 0, arc, square), k is not None)
            self.assertIs(surely_above(row, none, arc, level),
                          signs_on(below(row, oracle.fraction(square)), arc) == (1,))

    def test_silence_is_an_error(self):
        # a silent mast is one whose feed is off by as much as it is
        dice = random.Random(236)
        for _ in range(40):
            row = tuple(real(dice.randint(-4, 4)) for _ in range(dice.randint(2, 5)))
            if all(feed == NIL for feed in row):
                continue
            at, arc = dice.randrange(len(row)), dice.choice(ARCS)
            slacks = tuple((abs(feed[0][0]), 1) if k == at else (0, 1) for k, feed in enumerate(row))
            level = oracle.pair(Fraction(dice.randint(0, 12)))
            if surely_below(row, slacks, arc, level):
                feeds = without(row, (at,))
                if any(feed != NIL for feed in feeds):
                    self.assertIs(stays_below(feeds, 0, arc, oracle.pair(oracle.fraction(level) ** 2)), True)
            found = worst_silence(row, 1, arc, level)
            self.assertIs(found is None, stays_below(row, 1, arc, level))
            turn = dice.choice(SPOTS)
            off = silent_errors(row, slacks, turn)
            if off is not None:
                feeds = tuple(oracle.told((oracle.number(a)[0] + oracle.number(b)[0],
                                           oracle.number(a)[1] + oracle.number(b)[1]))
                              for a, b in zip(row, off))
                self.assertEqual(oracle.power(feeds, turn), 0)

    def test_a_workshop_demands_what_the_functions_tell(self):
        dice = random.Random(237)
        for _ in range(40):
            row, other, arc = some_row(dice, 4), some_row(dice, 4), dice.choice(ARCS)
            level, slack = [oracle.pair(Fraction(dice.randint(0, 30), part)) for part in (2, 70)]
            turn = dice.choice(SPOTS)
            shop = Workshop()
            shop.put("a", row)
            shop.put("b", other)
            for demand, holds in [
                    (("never more", "a", "b", arc), never_more(row, other, arc)),
                    (("null", "a", turn), is_null(row, turn)),
                    (("below", "a", arc, level), stays_below(row, 0, arc, level)),
                    (("sure", "a", slack, arc, level), surely_below(row, (slack,) * len(row), arc, level))]:
                if holds:
                    shop.demand(demand)
                else:
                    with self.assertRaises(errors.Broken):
                        shop.demand(demand)


class Bearings(unittest.TestCase):
    def test_floors_and_sides(self):
        dice, met = random.Random(238), 0
        for _ in range(120):
            row, other = (ONE,), some_row(dice, 3)
            arc = dice.choice([arc for arc in ARCS[1:] if not is_on(arc, "half")])
            self.assertIs(tells_turn(row, other, arc), word_of_reading(row, other, arc) == "tells")
            if tells_turn(row, other, arc):
                reading = power_at(other, oracle.pair((oracle.fraction(arc[0]) + oracle.fraction(arc[1])) / 2))
                k = turn_floor(row, other, arc, reading, 1000)
                for turn in (oracle.pair(Fraction(k, 1000)), oracle.pair(Fraction(k + 1, 1000))):
                    if is_on(arc, turn):
                        side = turn_side(row, other, arc, reading, turn)
                        self.assertTrue(side in (0, 1) if oracle.fraction(turn) * 1000 == k else side == -1)
                        met += 1
        self.assertGreater(met, 20)


class Tables(unittest.TestCase):
    def test_the_least_of_all(self):
        # with noise alone, all three least rows are told by the even one
        for many in range(1, 9):
            lags = (real(3),) + (NIL,) * (many - 1)
            for turn in SPOTS:
                row = least_hearing(lags, turn)
                self.assertEqual(row, row_through(many, ((turn, ONE),)))
                self.assertEqual(heard(lags, row), oracle.pair(3 * oracle.fraction(noise_of(row))))
                self.assertEqual(gain(row, turn), (many, 1))
                self.assertEqual(most_from(lags, turn), oracle.pair(Fraction(3, many)))
            self.assertEqual(guess_row(lags), (NIL,) * (many - 1) + (ONE,))

    def test_the_next_reading_goes_on(self):
        dice = random.Random(239)
        for _ in range(30):
            known = [NIL, HALF, ((0, 1), (-2, 3)), ((1, 3), (1, 3))]
            mirrors = tuple(dice.choice(known) for _ in range(dice.randint(0, 6)))
            lags = lags_from((5, 2), mirrors)
            center, radius = next_disc(lags)
            self.assertEqual(radius, guess_error(lags))
            # on the edge of the disc just as many waves are left as there were lags
            unit = point_of(dice.choice(SPOTS))
            size = oracle.fraction(radius)
            a, b = oracle.number(center)
            c, d = oracle.number(unit)
            longer = lags + (oracle.told((a + size * c, b + size * d)),)
            self.assertEqual(wave_rank(longer), len(lags))
            row = silent_row(longer)
            self.assertEqual(zeros_split(row), (0, len(lags), 0))
            self.assertEqual(waves_on(longer, "all"), len(lags))
            self.assertIs(is_quickest(row), True)
            self.assertEqual(mirrors_of(lags), mirrors)
            # the guess row's mirror dies away, and its power, turned over, has these lags
            self.assertIs(dies_away(mirrored(guess_row(lags))), True)

    def test_waves_are_heard_as_they_are_sent(self):
        dice = random.Random(240)
        for _ in range(40):
            row = some_row(dice)
            total, lags = Fraction(0), (NIL,) * 8
            for turn in dice.sample(SPOTS, 3):
                amount = (dice.randint(1, 9), 1)
                lags = lags_sum(lags, wave_lags(amount, turn, 8))
                total += amount[0] * oracle.fraction(power_at(row, turn))
                self.assertEqual(wave_lags(amount, joined_turns(turn, (1, 2)), 8),
                                 turned_lags(wave_lags(amount, turn, 8), (-1, 2)))
            self.assertEqual(heard(lags, row), oracle.pair(total))

    def test_lobe_rows_are_rows(self):
        for many in range(2, 9):
            row = lobe_row(many, (2, 3))
            self.assertEqual(nulls_on(row, ((2, 3), (-2, 3))), many - 1)
            self.assertEqual(zeros_split(row), (0, many - 1, 0))
            self.assertEqual(sent(row, (0, 1)), ONE)
            self.assertIs(stays_below(row, 0, ((2, 3), (-2, 3)), least_lobe(many, (2, 3))), True)
            more = fed(row, real(10 ** 40 + 1, 10 ** 40))
            self.assertIs(stays_below(more, 0, ((2, 3), (-2, 3)), least_lobe(many, (2, 3))), False)


class Long(unittest.TestCase):
    def test_rows_of_the_package_in_the_workshop(self):
        shop = Workshop()
        console = Console(shop)
        far = turn_times((4, 5), 30)
        shop.put("far", steered(whole(1, 2, 1), far))
        shop.demand(("below", "far", "all", (16, 1)))
        shop.demand(("null", "far", joined_turns("half", far)))
        text = console.say("show far")
        self.assertEqual(console.say("row again: " + text), "done")
        self.assertEqual(shop.named("again"), shop.named("far"))
        self.assertEqual([console.say("noise far"), console.say("nulls again")], ["6", "1"])
        shop.demand(("never more", "again", "far", "all"))
        with self.assertRaises(errors.Broken):
            shop.put("far", fed(shop.named("far"), real(HUGE - 1, HUGE)))
        self.assertEqual(console.say(f"sent again: {far[0]}/{far[1]}"), "4 0")
        self.assertEqual(shop.named("far")[0], ONE)

    def test_claims_across(self):
        dice = random.Random(241)
        for _ in range(20):
            row, number = some_row(dice), some_number(dice)
            if number == NIL:
                continue
            louder = fed(row, number)
            size = sum(part * part for part in oracle.number(number))
            claims = [("same power", row, mirrored(row)), ("rank", lags_of(louder), len(row)),
                      ("nulls", louder, "all", nulls_on(row, "all")), ("split", louder, zeros_split(row))]
            if size <= 1:
                claims.append(("never more", louder, row, "all"))
            else:
                self.assertIs(accepts(("never more", louder, row, "all"), ()), False)
            for claim in claims:
                self.assertIs(accepts(claim, ()), True)

    def test_the_same_power_and_i_or_less(self):
        for number in (I, LESS, ((3, 5), (-4, 5))):
            self.assertIs(accepts(("like", STEEP, fed(FLAT, number)), like_parts(STEEP, fed(FLAT, number))), True)
