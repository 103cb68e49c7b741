"""Points 31 and 32: zeros of rows, rows fed back, quickest rows."""

import random
import unittest
from fractions import Fraction
from itertools import product

import oracle
from helpers import HALF, HUGE, I, LESS, NIL, ONE, ROWS, TWO, real
from mastrows.complexes import complex_product
from mastrows.errors import InvalidBeginning, InvalidRow
from mastrows.likes import same_power
from mastrows.loops import dies_away, is_quickest, loop_run, zeros_split
from mastrows.makers import back_row, binomial_row, even_row, fed, joined_rows, mirrored, spread, steered
from mastrows.nexts import guess_row, lags_from, mirrors_of
from mastrows.rows import nulls_on
from mastrows.turns import point_of, turn_times
from samples import FACTORS, SPOTS, some_number, some_row, whole

# zeros and where they are: -1 inside, 0 on the circle, 1 outside
PLACES = [(NIL, -1), (HALF, -1), (real(-2, 3), -1), (((0, 1), (1, 2)), -1), (((1, 2), (-1, 2)), -1), (TWO, 1),
          (real(-3, 2), 1), (((0, 1), (2, 1)), 1), (((1, 1), (-1, 1)), 1), (ONE, 0), (LESS, 0), (I, 0),
          (((3, 5), (-4, 5)), 0), (real(HUGE - 1, HUGE), -1), (real(HUGE, HUGE - 1), 1),
          (((3, 5), (4 * HUGE - 1, 5 * HUGE)), -1)]
# rows with zeros that no fraction tells, and how many are inside, on, outside
SPLITS = [(whole(1, 1, 1), (0, 2, 0)), (whole(1, 0, 1), (0, 2, 0)), (whole(1, -1, -1), (1, 0, 1)),
          (whole(1, 0, 2), (2, 0, 0)), (whole(2, 0, 1), (0, 0, 2)), (whole(5, -8, 5), (0, 2, 0)),
          (whole(1, -3, 1), (1, 0, 1)), (whole(1, 0, 0, 2), (3, 0, 0)), (whole(3, 0, 0, 0, 2), (0, 0, 4)),
          (whole(1, 1, 0, 1), (1, 0, 2)), (whole(1, 2, 0, 1), (1, 0, 2)), (whole(1, 0, 0, 0, 0, 0, 0, 1), (0, 7, 0))]


def minus(number):
    return complex_product(number, LESS)


def row_of_zeros(zeros, last=ONE):
    row = (last,)
    for zero in zeros:
        row = oracle.product(row, (minus(zero), ONE))
    return row


def counted(places):
    return places.count(-1), places.count(0), places.count(1)


def image(zero):
    """The mirror image in the circle: 1 over the conjugate."""
    a, b = oracle.number(zero)
    size = a * a + b * b
    return oracle.told((a / size, b / size))


def some_zeros(dice, most=7):
    """Zeros with their places: some come several times, some with their mirror images."""
    out = []
    for _ in range(dice.randint(0, most)):
        zero, place = dice.choice(out) if out and dice.random() < 0.3 else dice.choice(PLACES[:13])
        out.append((zero, place))
        if zero != NIL and dice.random() < 0.3:
            out.append((image(zero), -place))
    return out[:most]


class ZerosSplit(unittest.TestCase):
    def test_of_the_document(self):
        half, steep, flat = (real(-1, 2), ONE), (TWO, ONE), (NIL, ONE, TWO)
        self.assertEqual([zeros_split(half), zeros_split((ONE, ONE)), zeros_split((ONE, NIL, real(-4))),
                          zeros_split(flat), zeros_split((ONE,))],
                         [(1, 0, 0), (0, 1, 0), (2, 0, 0), (2, 0, 0), (0, 0, 0)])
        self.assertEqual(zeros_split(steep), (0, 0, 1))

    def test_known_zeros(self):
        dice = random.Random(170)
        for _ in range(600):
            zeros = some_zeros(dice)
            row = row_of_zeros([zero for zero, _ in zeros], dice.choice([ONE, TWO, I, ((3, 7), (-2, 1))]))
            row = row + (NIL,) * dice.choice([0, 0, 8 - len(row)])
            wanted = counted([place for _, place in zeros])
            self.assertEqual(zeros_split(row), wanted)
            self.assertIs(is_quickest(row), wanted[0] == 0)

    def test_near_the_circle(self):
        dice = random.Random(171)
        for _ in range(40):
            zeros = dice.sample(PLACES[9:], dice.randint(1, 4))
            self.assertEqual(zeros_split(row_of_zeros([zero for zero, _ in zeros])),
                             counted([place for _, place in zeros]))

    def test_each_number_of_times(self):
        for zero, place in PLACES[:13]:
            for times in range(8):
                self.assertEqual(zeros_split(row_of_zeros([zero] * times)), counted([place] * times))

    def test_mirror_images(self):
        for zero, place in PLACES[1:9]:
            for times in (1, 2, 3):
                row = row_of_zeros([zero, image(zero)] * times)
                self.assertEqual(zeros_split(row), (times, 0, times))
                self.assertEqual(zeros_split(oracle.product(row, (ONE, ONE))), (times, 1, times))

    def test_zeros_that_no_fraction_tells(self):
        for row, split in SPLITS:
            self.assertEqual(zeros_split(row), split)
            inside, on, outside = split
            self.assertEqual(zeros_split(row[::-1]), (outside, on, inside))
        for (row, split), (other, more) in product(SPLITS, SPLITS):
            if len(row) + len(other) <= 9:
                self.assertEqual(zeros_split(joined_rows(row, other)), tuple(a + b for a, b in zip(split, more)))

    def test_noughts(self):
        for many in range(1, 9):
            for at in range(many):
                row = (NIL,) * at + (I,) + (NIL,) * (many - at - 1)
                self.assertEqual(zeros_split(row), (at, 0, 0))
        self.assertEqual(zeros_split((NIL, NIL, ONE, ONE, NIL, NIL)), (2, 1, 0))
        self.assertEqual(zeros_split((NIL, ONE, TWO, ONE, NIL)), (1, 2, 0))
        self.assertEqual(zeros_split((ONE,) + (NIL,) * 7), (0, 0, 0))

    def test_what_leaves_them(self):
        dice = random.Random(172)
        for _ in range(120):
            row = some_row(dice)
            inside, on, outside = zeros_split(row)
            degree = max(k for k, feed in enumerate(row) if feed != NIL)
            lowest = min(k for k, feed in enumerate(row) if feed != NIL)
            self.assertEqual(inside + on + outside, degree)
            self.assertGreaterEqual(on, nulls_on(row, "all"))
            self.assertEqual(zeros_split(fed(row, ((2, 3), (-1, 1)))), (inside, on, outside))
            self.assertEqual(zeros_split(steered(row, dice.choice(SPOTS))), (inside, on, outside))
            # the mirror and the back row have the mirror images, and those at 0 are gone
            rest = row[lowest:degree + 1]
            self.assertEqual(zeros_split(mirrored(rest)), (outside, on, inside - lowest))
            self.assertEqual(zeros_split(back_row(rest)), (outside, on, inside - lowest))
            if len(row) <= 4:
                self.assertEqual(zeros_split(spread(row, 2)), (2 * inside, 2 * on, 2 * outside))

    def test_any_rows_beside_steps(self):
        # all inside by the steps of Schur and Cohn, or all outside, the other way round
        dice, met = random.Random(173), set()
        for _ in range(300):
            row = tuple(some_number(dice) for _ in range(dice.randint(1, 5)))
            lead = dice.choice([NIL, real(9), ((-4, 1), (7, 1))])
            row = dice.choice([row + (lead,), (lead,) + row, row])
            if all(feed == NIL for feed in row):
                continue
            split = zeros_split(row)
            met.add(split)
            self.assertIs(split[1:] == (0, 0), oracle.stays_inside(row))
            if row[0] != NIL:
                self.assertIs(dies_away(row), oracle.stays_inside(row[::-1]))
        self.assertGreater(len(met), 12)

    def test_by_perturbing(self):
        # the circle a little smaller, and a little greater: those between are on it
        dice = random.Random(174)
        for _ in range(60):
            zeros = some_zeros(dice, 5)
            row = row_of_zeros([zero for zero, _ in zeros])
            small = stretched(row, Fraction(99, 100))
            great = stretched(row, Fraction(101, 100))
            inside, on, outside = zeros_split(row)
            self.assertEqual(zeros_split(small), (inside, 0, on + outside))
            self.assertEqual(zeros_split(great), (inside + on, 0, outside))

    def test_any_size(self):
        far = turn_times((4, 5), 60)
        row = steered(joined_rows(whole(1, -1, -1), joined_rows(whole(5, -8, 5), whole(2, 1))), far)
        self.assertEqual(zeros_split(row), (1, 2, 2))
        dice = random.Random(175)
        row = tuple(oracle.told((Fraction(dice.randint(-10 ** 99, 10 ** 99), 10 ** 98 + k),
                                 Fraction(dice.randint(-10 ** 99, 10 ** 99), 10 ** 98 + 3 * k + 1))) for k in range(8))
        self.assertEqual(sum(zeros_split(row)), 7)
        self.assertEqual(zeros_split(row), tuple(a for a in zeros_split(row[::-1])[::-1]))


def stretched(row, factor):
    """The row whose zeros are those of the row over the factor."""
    plain = [oracle.number(feed) for feed in row]
    return tuple(oracle.told((a * factor ** k, b * factor ** k)) for k, (a, b) in enumerate(plain))


class DiesAway(unittest.TestCase):
    def test_of_the_document(self):
        half, steep = (real(-1, 2), ONE), (TWO, ONE)
        self.assertEqual([dies_away(half), dies_away(steep), dies_away((ONE, ONE))], [False, True, False])
        with self.assertRaises(InvalidRow) as caught:
            dies_away((NIL, ONE, TWO))
        self.assertEqual(caught.exception.given, (NIL, ONE, TWO))

    def test_known_zeros(self):
        dice, met = random.Random(176), set()
        for _ in range(400):
            zeros = [spot for spot in some_zeros(dice) if spot[0] != NIL and (spot[1] == 1 or dice.random() < 0.15)]
            row = row_of_zeros([zero for zero, _ in zeros])
            wanted = all(place == 1 for _, place in zeros)
            met.add(wanted)
            self.assertIs(dies_away(row), wanted)
            if wanted:
                self.assertIs(is_quickest(row), True)
        self.assertEqual(met, {True, False})

    def test_guess_rows(self):
        # the mirror of a guess row dies away, and each row that dies away is one, fed
        dice = random.Random(177)
        for _ in range(80):
            mirrors = tuple(dice.choice([NIL, HALF, ((0, 1), (-4, 5)), ((-1, 2), (2, 3)), real(999, 1000)])
                            for _ in range(dice.randint(0, 7)))
            guess = guess_row(lags_from((1, 1), mirrors))
            self.assertIs(dies_away(mirrored(guess)), True)
            self.assertIs(dies_away(fed(mirrored(guess), ((3, 1), (-1, 2)))), True)
            # with one more of the size 1 all zeros are on the circle
            longer = stepped(guess_row(lags_from((1, 1), mirrors[:6])), point_of(dice.choice(SPOTS)))
            self.assertIs(dies_away(mirrored(longer)), False)
            self.assertEqual(zeros_split(longer), (0, len(longer) - 1, 0))

    def test_mirror_numbers_tell_it(self):
        dice, met = random.Random(178), set()
        for _ in range(200):
            row = (real(dice.choice([2, 4, 9])),) + tuple(some_number(dice) for _ in range(dice.randint(0, 4)))
            found = mirrors_of_row(mirrored(trimmed_end(row)))
            met.add(found is not None)
            self.assertIs(dies_away(row), found is not None)
            if found is not None:
                shown = guess_row(lags_from((1, 1), found))
                last = oracle.number(mirrored(trimmed_end(row))[-1])
                size = last[0] ** 2 + last[1] ** 2
                over = oracle.told((last[0] / size, -last[1] / size))
                self.assertEqual(shown, fed(mirrored(trimmed_end(row)), over))
                self.assertEqual(mirrors_of(lags_from((1, 1), found)), found)
        self.assertEqual(met, {True, False})

    def test_degree_0(self):
        for row in ((ONE,), (I, NIL), (real(1, HUGE),) + (NIL,) * 7):
            self.assertIs(dies_away(row), True)
            self.assertIs(is_quickest(row), True)

    def test_first_feed_0(self):
        for row in ((NIL, ONE), (NIL, NIL, I), (NIL,) * 7 + (ONE,), (NIL, ONE, TWO, NIL)):
            for call in (lambda: dies_away(row), lambda: loop_run(row, (ONE,), 3), lambda: loop_run(row, None, None)):
                with self.assertRaises(InvalidRow) as caught:
                    call()
                self.assertIs(caught.exception.given, row)
            self.assertIs(is_quickest(row), False)
            self.assertGreater(zeros_split(row)[0], 0)


def trimmed_end(row):
    while row[-1] == NIL:
        row = row[:-1]
    return row


def stepped(row, number):
    """The guess row of one lag more with this mirror number, whatever its size."""
    plain, m = [oracle.number(feed) for feed in row], oracle.number(number)
    taken = [oracle.times(m, (a, -b)) for a, b in plain[::-1]] + [(0, 0)]
    return tuple(oracle.told((a - c, b - d)) for (a, b), (c, d) in zip([(0, 0)] + plain, taken))


def mirrors_of_row(row):
    """The mirror numbers of lags whose guess row this is, but for a factor; None if there are none."""
    plain, out = [oracle.number(feed) for feed in row], []
    while len(plain) > 1:
        first, last = plain[0], plain[-1]
        size = last[0] ** 2 + last[1] ** 2
        if size == 0 or first[0] ** 2 + first[1] ** 2 >= size:
            return None
        m = oracle.times((-first[0] / size, -first[1] / size), (last[0], -last[1]))
        out.insert(0, oracle.told(m))
        # the feeds over the last one
        plain = [oracle.times(feed, (last[0] / size, -last[1] / size)) for feed in plain]
        less = 1 - m[0] ** 2 - m[1] ** 2
        parts = [oracle.times(m, (a, -b)) for a, b in plain[::-1]]
        plain = [((a + c) / less, (b + d) / less) for (a, b), (c, d) in zip(plain, parts)][1:]
    return tuple(out)


class Quickest(unittest.TestCase):
    def sums(self, row):
        out = [Fraction(0)]
        for feed in row:
            a, b = oracle.number(feed)
            out.append(out[-1] + a * a + b * b)
        return out

    def likes(self, zeros, size):
        """Rows of the same power: some zeros exchanged for their mirror images, some noughts moved."""
        out = []
        for flips in product([False, True], repeat=len(zeros)):
            row = (ONE,)
            for zero, flip in zip(zeros, flips):
                factor = (minus(zero), ONE)
                row = oracle.product(row, oracle.mirror(factor) if flip else factor)
            for ahead in range(size - len(row) + 1):
                out.append((NIL,) * ahead + row + (NIL,) * (size - len(row) - ahead))
        return out

    def test_beside_all_of_the_same_power(self):
        dice = random.Random(179)
        for _ in range(30):
            zeros = [dice.choice(PLACES[1:13])[0] for _ in range(dice.randint(0, 4))]
            rows = self.likes(zeros, dice.choice([len(zeros) + 1, len(zeros) + 2]))
            for row in rows:
                self.assertTrue(same_power(row, rows[0]))
            best = [max(column) for column in zip(*[self.sums(row) for row in rows])]
            for row in rows:
                self.assertIs(is_quickest(row), self.sums(row) == best)

    def test_rows_that_die_away_are_quickest(self):
        dice = random.Random(180)
        for _ in range(100):
            row = some_row(dice)
            if row[0] != NIL and dies_away(row):
                self.assertIs(is_quickest(row), True)

    def test_zeros_on_the_circle(self):
        for many in range(1, 9):
            self.assertIs(is_quickest(even_row(many)), True)
            self.assertIs(is_quickest(binomial_row(many)), True)
            self.assertIs(dies_away(even_row(many)), many == 1)
        self.assertIs(is_quickest((NIL, ONE)), False)


class LoopRun(unittest.TestCase):
    def plain_run(self, row, beginning, count):
        feeds, made = [oracle.number(feed) for feed in trimmed_end(row)], [oracle.number(y) for y in beginning]
        size = feeds[0][0] ** 2 + feeds[0][1] ** 2
        over = -feeds[0][0] / size, feeds[0][1] / size
        for _ in range(count):
            total = Fraction(0), Fraction(0)
            for k in range(1, len(feeds)):
                part = oracle.times(feeds[k], made[-k])
                total = total[0] + part[0], total[1] + part[1]
            made.append(oracle.times(total, over))
        return tuple(oracle.told(y) for y in made[len(beginning):])

    def test_of_the_document(self):
        self.assertEqual(loop_run((TWO, ONE), (real(8),), 3), (real(-4), TWO, LESS))

    def test_any(self):
        dice = random.Random(181)
        for row in ROWS + FACTORS + [some_row(dice) for _ in range(100)]:
            if row[0] == NIL:
                continue
            degree = len(trimmed_end(row)) - 1
            beginning = tuple(some_number(dice) for _ in range(degree))
            for count in (0, 1, 2, 7):
                self.assertEqual(loop_run(row, beginning, count), self.plain_run(row, beginning, count))

    def test_counts(self):
        for count in (0, 1, 59, 60):
            made = loop_run(whole(1, -1, -1), (NIL, ONE), count)
            self.assertEqual(len(made), count)
            self.assertEqual(made, self.plain_run(whole(1, -1, -1), (NIL, ONE), count))
        self.assertEqual(loop_run(whole(1, -1, -1), (NIL, ONE), 60)[-1], real(2504730781961))

    def test_degree_0(self):
        for row in ((ONE,), (I, NIL), (real(-3, 7),) + (NIL,) * 7):
            for count in (0, 1, 60):
                self.assertEqual(loop_run(row, (), count), (NIL,) * count)
            for beginning in ((ONE,), (NIL,), (None,)):
                with self.assertRaises(InvalidBeginning) as caught:
                    loop_run(row, beginning, 3)
                self.assertIsNone(caught.exception.index)

    def test_noughts_at_the_end(self):
        row = (TWO, ONE, NIL, NIL)
        self.assertEqual(loop_run(row, (real(8),), 2), (real(-4), TWO))
        with self.assertRaises(InvalidBeginning) as caught:
            loop_run(row, (ONE, ONE, ONE), 2)
        self.assertIsNone(caught.exception.index)

    def test_what_dies_away_does(self):
        dice = random.Random(182)
        for _ in range(40):
            known = [TWO, real(-3), ((0, 1), (2, 1)), ((2, 1), (-2, 1))]
            zeros = [dice.choice(known) for _ in range(dice.randint(1, 4))]
            row = row_of_zeros(zeros)
            self.assertIs(dies_away(row), True)
            beginning = tuple(some_number(dice) for _ in zeros)
            made = [oracle.number(y) for y in loop_run(row, beginning, 60)]
            self.assertLess(sum(a * a + b * b for a, b in made[-len(zeros):]), Fraction(1, 10 ** 8))
            # with one zero inside some beginning does not: the powers of 1 over the zero
            worse = oracle.product(row, (minus(HALF), ONE))
            self.assertIs(dies_away(worse), False)
            grown = tuple(real(2 ** k) for k in range(len(worse) - 1))
            self.assertEqual(loop_run(worse, grown, 60)[-1], real(2 ** (len(worse) - 2 + 60)))
            # and on the circle the powers of its conjugate stay
            still = oracle.product(row, (minus(I), ONE))
            self.assertIs(dies_away(still), False)
            powers = [ONE, ((0, 1), (-1, 1)), LESS, I]
            beginning = tuple(powers[k % 4] for k in range(len(still) - 1))
            self.assertEqual(loop_run(still, beginning, 4)[-1], powers[(len(still) + 2) % 4])

    def test_it_solves_the_equations(self):
        dice = random.Random(183)
        for _ in range(30):
            row = trimmed_end(some_row(dice))
            if row[0] == NIL:
                continue
            beginning = tuple(some_number(dice) for _ in row[1:])
            made = beginning + loop_run(row, beginning, 12)
            for m in range(len(beginning), len(made)):
                parts = [oracle.times(oracle.number(feed), oracle.number(made[m - k])) for k, feed in enumerate(row)]
                self.assertEqual((sum(a for a, _ in parts), sum(b for _, b in parts)), (0, 0))

    def test_numbers_of_any_size(self):
        row = (((1, HUGE), (1, 3)), real(HUGE), I)
        beginning = (((HUGE, 7), (1, HUGE)), I)
        self.assertEqual(loop_run(row, beginning, 4), self.plain_run(row, beginning, 4))
