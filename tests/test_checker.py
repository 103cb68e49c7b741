"""Point 34: the checker of claims and their papers."""

import inspect
import unittest
from fractions import Fraction

import oracle
from helpers import EIGHT, HALF, HUGE, I, LESS, NIL, NO_VALUES, ONE, TWO, WAVE, Touchy, deep, real
from mastrows import certificates
from mastrows.checker import accepts
from mastrows.lobes import least_lobe
from mastrows.points import gain, multipliers, row_through
from mastrows.rows import lags_of
from samples import ROOT_TWO

PAIR, TRIPLE, STEEP, FLAT, LONE = (ONE, ONE), (ONE, ONE, ONE), (TWO, ONE), (NIL, ONE, TWO), (ONE,)
BOW, NEAR, OVER = ((0, 1), (1, 1)), ((-1, 3), (1, 3)), ((1, 1), (-1, 1))
QUARTERS = ((1, 4), (1, 4))
POINTS = (((0, 1), ONE), ("half", NIL))
MIX = oracle.waves([(2, (1, 1)), (1, (0, 1))], 3)
DOWN = (ONE, LESS)
# errors with which (1, 1), each feed off by 1 / 4, sends 5 / 2 toward the turn 0, and a little less than that toward 1
PUSH = (real(1, 4), real(1, 4))

# claims that are so, each with papers of it
SO = [
    (("same power", STEEP, FLAT), [()]),
    (("same power", PAIR, (I, I)), [()]),
    (("unlike power", PAIR, STEEP), ["half", (0, 1), (1, 1), (-7, 3), (HUGE, 1)]),
    (("like", STEEP, FLAT), [((ONE,), STEEP, ONE), ((TWO,), (ONE, HALF), ONE),
                             ((I,), (((0, 1), (-2, 1)), ((0, 1), (-1, 1))), LESS)]),
    (("like", PAIR, (I, I)), [(PAIR, (ONE,), I), ((ONE,), PAIR, I)]),
    (("like", (NIL, TWO, NIL), (((0, 1), (2, 1)),)), [((TWO,), (ONE,), I), ((ONE,), (TWO,), I),
                                                      ((I,), (((0, 1), (-2, 1)),), ((0, 1), (-1, 1)))]),
    (("never more", PAIR, TRIPLE, ((0, 1), (1, 2))), [()]),
    (("never more", PAIR, (I, I), "all"), [()]),
    (("more", PAIR, TRIPLE, "all"), [(2, 1), (-2, 1), (3, 2)]),
    (("more", (real(HUGE + 1, HUGE),), LONE, OVER), ["half", (1, 1), (-1, 1)]),
    (("null", PAIR, "half"), [()]),
    (("heard there", PAIR, (HUGE, 1)), [()]),
    (("nulls", TRIPLE, "all", 2), [()]),
    (("nulls", PAIR, BOW, 0), [()]),
    (("nulls", PAIR, ("half", (0, 1)), 1), [()]),
    (("wished", WAVE), [(((1, 1), PAIR),), (((1, 2), PAIR), ((1, 2), PAIR)), (((1, 4), (TWO, TWO)),),
                        (((1, 1), (NIL, NIL, I, I)),), (((1, 2), (LESS, LESS)), ((1, 4), PAIR),
                                                        ((1, 4), (I, I, NIL)))]),
    (("wished", (NIL,)), [()]),
    (("wished", (NIL,) * 8), [()]),
    (("wished", (real(5),)), [(((5, 1), (ONE,)),), (((2, 1), (ONE,)), ((3, 1), (NIL, I))),
                              (((5, 4), (ONE, NIL, NIL)), ((15, 4), (I,))),
                              (((5, 4), (ONE, NIL, ONE)), ((5, 4), (ONE, NIL, LESS)))]),
    (("dark", (ONE, ONE)), ["half", (3, 1), (-2, 1)]),
    (("dark", ROOT_TWO), [(0, 1), (1, 1), (-1, 1)]),
    (("sure", PAIR, QUARTERS, BOW, (5, 2)), [()]),
    (("sure", PAIR, ((0, 1), (0, 1)), "all", (2, 1)), [()]),
    (("unsure", PAIR, QUARTERS, BOW, (2, 1)), [((0, 1), PUSH), ((0, 1), (real(1, 5), NIL)),
                                               ((0, 1), (((3, 20), (1, 5)), real(1, 4)))]),
    (("unsure", PAIR, QUARTERS, "all", (249, 100)), [((0, 1), PUSH)]),
    (("unsure", PAIR, ((5, 1), (0, 1)), OVER, (4, 1)), [("half", (real(5), NIL)), ("half", (real(-5), NIL)),
                                                        ("half", (((3, 1), (4, 1)), NIL)),
                                                      ((1, 1), (real(5), NIL))]),
    (("unsure", PAIR, ((0, 1), (0, 1)), BOW, (1, 1)), [((0, 1), (NIL, NIL)), ((1, 1), (NIL, NIL))]),
    (("tells", LONE, PAIR, BOW), [()]),
    (("folds", LONE, PAIR, NEAR), [((-1, 3), (0, 1), (1, 3)), ((-1, 4), (1, 100), (1, 5)),
                                   ((-1, 3), (-1, 100), (1, 3))]),
    (("folds", LONE, PAIR, "all"), [("half", (0, 1), (1, 1)), ((-1, 1), (0, 1), (7, 1)), ("half", (-1, 1), (5, 1))]),
    (("folds", LONE, PAIR, OVER), [((1, 1), "half", (-1, 1)), ((2, 1), (-9, 1), (-3, 1)), ((1, 1), (50, 1), (-40, 1))]),
    (("same reading", LONE, (TWO,), NEAR), [()]),
    (("same reading", STEEP, (ONE, TWO), "all"), [()]),
    (("stays below", TRIPLE, 1, "all", (4, 1)), [()]),
    (("stays below", (ONE, LESS), 2, NEAR, (0, 1)), [()]),
    (("stays below", (ONE,), 2, "all", (0, 1)), [()]),
    (("may pass", TRIPLE, 1, "all", (3, 1)), [((0,), (0, 1)), ((2,), (0, 1)), ((1,), (0, 1)), ((1,), "half"),
                                              ((0,), (1, 5))]),
    (("may pass", TRIPLE, 0, BOW, (8, 1)), [((), (0, 1)), ((), (1, 100))]),
    (("may pass", TRIPLE, 2, BOW, (1, 2)), [((0, 1), (0, 1)), ((0, 2), (1, 1)), ((1, 2), (1, 7))]),
    (("of waves", MIX), [()]),
    (("of waves", (NIL, NIL)), [()]),
    (("of waves", WAVE), [()]),
    (("barred", (ONE, TWO)), [(ONE, LESS), (real(-3), ONE), (real(-2), ONE), (real(HUGE), real(-HUGE))]),
    (("barred", (real(-1), NIL)), [(ONE,), (NIL, I), (ONE, HALF)]),
    (("barred", (NIL, NIL, ONE)), [(ONE, NIL, LESS), (ONE, real(100), LESS)]),
    (("rank", MIX, 2), [()]),
    (("rank", (NIL,) * 3, 0), [()]),
    (("rank", WAVE, 2), [()]),
    (("best", 2, POINTS, (HALF, HALF)), [(HALF, NIL)]),
    (("best", 3, (((1, 1), I),), row_through(3, (((1, 1), I),))), [(((0, 1), (1, 3)),)]),
    (("best", 8, EIGHT, LONE + (NIL,) * 7), [multipliers(8, EIGHT)]),
    (("gain", TRIPLE, (0, 1), (3, 1)), [()]),
    (("gain", PAIR, "half", (0, 1)), [()]),
    (("least lobe", 3, (3, 4), (64, 289)), [()]),
    (("least lobe", 1, (HUGE, 1), (1, 1)), [()]),
    (("dies away", STEEP), [()]),
    (("dies away", LONE), [()]),
    (("stays", PAIR), [()]),
    (("stays", (ONE, TWO)), [()]),
    (("split", (ONE, NIL, real(-4)), (2, 0, 0)), [()]),
    (("split", FLAT, (2, 0, 0)), [()]),
    (("split", PAIR, (0, 1, 0)), [()]),
]
# claims that are not so, and such as are none: what is wrong is told beside some
NOT_SO = [
    ("same power", STEEP, PAIR), ("same power", LONE, (real(HUGE, HUGE + 1),)), ("unlike power", STEEP, FLAT),
    ("like", STEEP, PAIR), ("like", STEEP, (real(4), TWO)), ("never more", PAIR, TRIPLE, "all"),
    ("never more", TRIPLE, PAIR, NEAR),
    ("never more", (real(HUGE + 1, HUGE),), LONE, OVER), ("more", PAIR, TRIPLE, ((0, 1), (1, 2))),
    ("more", PAIR, PAIR, "all"),
    ("null", PAIR, (HUGE, 1)), ("null", STEEP, "half"), ("heard there", PAIR, "half"), ("nulls", TRIPLE, "all", 1),
    ("nulls", TRIPLE, "all", 3), ("nulls", PAIR, BOW, 1), ("nulls", PAIR, BOW, -1), ("wished", (ONE, ONE)),
    ("wished", ROOT_TWO),
    ("wished", (real(-1),)), ("dark", WAVE), ("dark", (NIL,)), ("dark", lags_of(TRIPLE)),
    ("sure", PAIR, QUARTERS, BOW, (2, 1)),
    ("sure", PAIR, ((5, 1), (5, 1)), "all", (1, 1)), ("unsure", PAIR, QUARTERS, BOW, (5, 2)),
    ("unsure", PAIR, ((0, 1), (0, 1)), "all", (2, 1)), ("tells", LONE, PAIR, NEAR), ("tells", LONE, PAIR, "all"),
    ("tells", LONE, (TWO,), BOW), ("folds", LONE, PAIR, BOW), ("folds", LONE, LONE, NEAR),
    ("same reading", LONE, PAIR, BOW),
    ("same reading", LONE, PAIR, NEAR), ("stays below", TRIPLE, 1, "all", (3, 1)),
    ("stays below", TRIPLE, 0, "all", (8, 1)),
    ("may pass", TRIPLE, 1, "all", (4, 1)), ("may pass", LONE, 2, "all", (0, 1)), ("of waves", (ONE, TWO)),
    ("of waves", (real(-1),)), ("of waves", (NIL, ONE)), ("barred", MIX), ("barred", WAVE), ("barred", (NIL,)),
    ("rank", MIX, 3),
    ("rank", MIX, 1), ("rank", WAVE, 1), ("best", 2, POINTS, (HALF, real(1, 3))),
    ("best", 3, (((1, 1), I),), (I, NIL, NIL)),
    ("best", 2, (((0, 1), ONE),), LONE), ("gain", TRIPLE, (0, 1), (2, 1)), ("gain", TRIPLE, (1, 1), (3, 1)),
    ("least lobe", 3, (3, 4), (64, 290)), ("least lobe", 2, (3, 4), (64, 289)), ("dies away", PAIR),
    ("dies away", (ONE, TWO)),
    ("stays", STEEP), ("stays", LONE), ("split", PAIR, (1, 0, 0)), ("split", FLAT, (0, 0, 2)),
    ("split", FLAT, (1, 0, 1)),
    # a null on the arc: no reading
    ("tells", PAIR, LONE, OVER), ("folds", PAIR, LONE, "all"), ("folds", PAIR, TRIPLE, OVER),
    ("same reading", PAIR, PAIR, "all"),
    # no rank, no row, a first feed 0
    ("rank", (ONE, TWO), 0), ("rank", (ONE, TWO), 2), ("rank", (ONE, TWO), None),
    ("best", 2, (((0, 1), NIL),), (ONE, LESS)),
    ("best", 1, POINTS, (ONE,)), ("best", 2, POINTS + (((1, 1), ONE),), (HALF, HALF)), ("dies away", FLAT),
    ("stays", FLAT),
    ("dies away", (NIL, ONE)), ("stays", (NIL, ONE)),
    # numbers of masts, of silent ones and the like beyond their bounds
    ("stays below", TRIPLE, 3, "all", (9, 1)), ("stays below", TRIPLE, -1, "all", (9, 1)),
    ("may pass", TRIPLE, 3, "all", (0, 1)),
    ("best", 9, POINTS, (HALF, HALF)), ("best", 0, POINTS, (HALF, HALF)), ("least lobe", 0, (1, 1), (1, 1)),
    ("least lobe", 9, (1, 1), least_lobe(8, (1, 1))), ("least lobe", 2, (0, 1), (1, 1)),
    ("least lobe", 2, (-1, 1), (1, 2)),
]
STRAYS = [None, True, 0, 1, -1, "", "all", "Half", "same power", [], (), {}, (0, 0), (1, 0), (True, 1), (2, 2), [1, 1],
          list(PAIR),
          (PAIR, PAIR), ((1, 1), (1, 1)), (NIL,), (None,), (None, None, None), deep(14), Touchy(), (Touchy(),),
          (Touchy(), Touchy()),
          (Touchy(), Touchy(), Touchy()), object(), b"half", int, (((1, 1), Touchy()),), ((0, 1), Touchy()),
          ((0,), Touchy()),
          (Touchy(), (NIL, NIL)), ((0, 1), (Touchy(), NIL)), (((Touchy(), 1), (0, 1)),), ((0, 1), [NIL, NIL])]


class RightPapers(unittest.TestCase):
    def test_they_are_accepted(self):
        for claim, papers in SO:
            for paper in papers:
                with self.subTest(claim[0]):
                    self.assertIs(accepts(claim, paper), True)

    def test_all_sorts_are_there(self):
        words = {claim[0] for claim, _ in SO}
        self.assertEqual(len(words), 26)
        self.assertEqual(words, {claim[0] for claim in NOT_SO})

    def test_by_name(self):
        for claim, papers in SO:
            self.assertIs(accepts(paper=papers[0], claim=claim), True)
        self.assertEqual(list(inspect.signature(accepts).parameters), ["claim", "paper"])


class WrongPapers(unittest.TestCase):
    def refused(self, claim, papers):
        for k, paper in enumerate(papers):
            with self.subTest(claim[0], k=k):
                self.assertIs(accepts(claim, paper), False)

    def test_strays(self):
        for claim, papers in SO:
            strays = [stray for stray in STRAYS if not isinstance(stray, tuple) or len(stray) > 0]
            self.refused(claim, strays if papers[0] == () else STRAYS)

    def test_claims_without_papers(self):
        for claim, papers in SO:
            if papers == [()]:
                self.refused(claim, ["half", (0, 1), "", [], ((),), None, 0, False, {}, (None,), "()", PAIR])

    def test_papers_of_the_others(self):
        turns, alone = ("unlike power", "more", "dark"), [(claim, papers) for claim, papers in SO if papers != [()]]
        for claim, _ in alone:
            for other, papers in alone:
                # turns are turns, and multipliers may be a row that bars
                if other[0] != claim[0] != "barred" and not (claim[0] in turns and other[0] in turns):
                    for paper in papers:
                        self.assertIs(accepts(claim, paper), False)

    def test_unlike_power(self):
        # at these turns the powers are the same
        self.refused(("unlike power", PAIR, (NIL, real(2))), [(0, 1), "all", (2, 2), ((1, 1),), None, ["half"], "Half"])
        self.assertIs(accepts(("unlike power", PAIR, (NIL, real(2))), (1, 1)), True)

    def test_like(self):
        self.refused(("like", STEEP, FLAT), [
            (), ((ONE,), STEEP), ((ONE,), STEEP, ONE, ONE), [(ONE,), STEEP, ONE], ((ONE,), STEEP, LESS),
            ((ONE,), STEEP, I),
            (STEEP, (ONE,), ONE), ((ONE,), (ONE, TWO), ONE), ((TWO,), STEEP, ONE), ((TWO,), STEEP, HALF),
            # noughts at the ends: not trimmed
            ((ONE, NIL), STEEP, ONE), ((ONE,), (TWO, ONE, NIL), ONE), ((NIL, ONE), STEEP, ONE),
            ((ONE,), (NIL, TWO, ONE), ONE),
            ((ONE,), STEEP, (1, 1)), ((ONE,), list(STEEP), ONE), ([ONE], STEEP, ONE), ((ONE,), STEEP, [ONE]),
            ((ONE,), STEEP, None),
            (ONE, STEEP, ONE), ((NIL,), STEEP, ONE), ((ONE,), STEEP, ((2, 2), (0, 1))), ((ONE,) * 9, STEEP, ONE)])
        # the factor times FLIPPED's mirror is what is asked for, the size of the factor is 1
        self.refused(("like", (TWO,), (((0, 1), (2, 1)),)), [((ONE,), (TWO,), ONE), ((TWO,), (TWO,), I),
                                                             ((HALF,), (TWO,), TWO)])
        self.refused(("like", PAIR, PAIR), [((HALF,), (TWO, TWO), LESS), (PAIR, PAIR, ONE)])
        self.assertIs(accepts(("like", PAIR, PAIR), ((HALF,), (TWO, TWO), ONE)), True)
        # with a factor of another size they are multiples, but not of one power
        self.refused(("like", STEEP, (real(4), TWO)), [(STEEP, LONE, TWO), (LONE, STEEP, TWO), (STEEP, LONE, ONE)])

    def test_more(self):
        self.refused(("more", PAIR, TRIPLE, "all"), [(0, 1), "half", (1, 2), (-9, 1), "all", (4, 2)])
        # off the arc
        self.refused(("more", PAIR, TRIPLE, ((0, 1), (3, 2))), [(2, 1), (-2, 1)])
        self.assertIs(accepts(("more", PAIR, TRIPLE, ((0, 1), (3, 2))), (3, 2)), True)

    def test_wished(self):
        self.refused(("wished", WAVE), [
            (), (((1, 1), STEEP),), (((1, 1), PAIR), ((1, 1), PAIR)), (((0, 1), PAIR), ((1, 1), PAIR)),
            (((2, 1), PAIR), ((-1, 1), PAIR)), [((1, 1), PAIR)], (((1, 1), list(PAIR)),), (((1, 1),),),
            (((1, 1), PAIR, ()),),
            (((2, 2), PAIR),), ((1, PAIR),), ((PAIR, (1, 1)),), ((1, 1), PAIR), (((1, 1), PAIR), None),
            (((1, 1), (NIL, NIL)),),
            (((HUGE, HUGE + 1), PAIR),), (((1, 1), (ONE, LESS)),), (((1, 1), PAIR), ()), ([(1, 1), PAIR],)])
        self.refused(("wished", (NIL,)), [(((1, 1), ONE),), (((1, 1), (ONE,)),), None, [], (((0, 1), (ONE,)),)])
        # beyond the lags nothing may be left
        self.refused(("wished", (TWO,)), [(((1, 1), PAIR),), (((1, 1), (ONE, NIL, ONE)),)])
        self.assertIs(accepts(("wished", (TWO, NIL, ONE)), (((1, 1), (ONE, NIL, ONE)),)), True)
        self.assertIs(accepts(("wished", (TWO,)), (((1, 2), (ONE, NIL, ONE)), ((1, 2), (ONE, NIL, LESS)))), True)

    def test_dark(self):
        self.refused(("dark", (ONE, ONE)), [(0, 1), (1, 1), (1, 2), "all", (6, 2)])
        # it is 0 there
        self.refused(("dark", (NIL, ONE)), [(1, 1), (-1, 1)])

    def test_unsure(self):
        claim = ("unsure", PAIR, QUARTERS, BOW, (2, 1))
        self.refused(claim, [
            (), ((0, 1),), (PUSH, (0, 1)), ((0, 1), PUSH, ()), [(0, 1), PUSH], ((0, 1), list(PUSH)), ((0, 1), PUSH[:1]),
            ((0, 1), PUSH + PUSH), ((-1, 3), PUSH), ("half", PUSH), ((0, 2), PUSH), ((0, 1), (NIL, NIL)),
            ((0, 1), (real(1, 2), NIL)), ((0, 1), (((1, 4), (1, HUGE)), NIL)),
            ((0, 1), (((1, 5), (1, 5)), ((1, 5), (0, 1)))),
            ((0, 1), (real(-1, 4), real(-1, 4))), ((0, 1), ((1, 4), (1, 4))), ((0, 1), (real(1, 4), None)),
            ((1, 1), PUSH)])
        # just the level is not above it
        self.refused(("unsure", PAIR, QUARTERS, BOW, (249, 100)), [((0, 1), (real(1, 4), real(24, 100)))])
        self.refused(("unsure", PAIR, QUARTERS, "all", (5, 2)), [((0, 1), PUSH)])
        self.assertIs(accepts(("unsure", PAIR, QUARTERS, BOW, (9, 4)), ((0, 1), (real(1, 4), real(1, HUGE)))), True)

    def test_folds(self):
        self.refused(("folds", LONE, PAIR, NEAR), [
            (), ((-1, 3), (0, 1)), ((-1, 3), (0, 1), (1, 3), (1, 3)), [(-1, 3), (0, 1), (1, 3)],
            ((1, 3), (0, 1), (-1, 3)),
            ((0, 1), (-1, 3), (1, 3)), ((-1, 3), (1, 3), (0, 1)), ((-1, 3), (-1, 4), (0, 1)), ((0, 1), (1, 4), (1, 3)),
            ((-1, 2), (0, 1), (1, 3)), ((-1, 3), (0, 1), (1, 2)), ((-1, 3), (-1, 3), (1, 3)), ((-1, 3), (1, 3), (1, 3)),
            ((-1, 4), (1, 4), (1, 3)), ((-1, 3), (1, 4), (1, 4)), ("half", (0, 1), (1, 3)), ((-1, 3), None, (1, 3)),
            ((-1, 3), (0, 2), (1, 3))])
        self.refused(("folds", LONE, PAIR, "all"), [((-1, 1), (0, 1), "half"), ((1, 1), "half", (-1, 1)),
                                                    ((7, 1), (0, 1), (-1, 1)),
                                                    ("half", (-1, 1), "half"), ("half", (1, 1), (0, 1)),
                                                    ("half", (0, 1), "half")])
        self.refused(("folds", LONE, PAIR, OVER), [((-1, 1), "half", (1, 1)), ((1, 1), (2, 1), (3, 1)),
                                                   ((1, 1), (0, 1), (-1, 1)),
                                                   ("half", (1, 1), (-1, 1)), ((-9, 1), (9, 1), (-3, 1))])

    def test_may_pass(self):
        self.refused(("may pass", TRIPLE, 1, "all", (3, 1)), [
            (), ((0,),), ((0,), (0, 1), ()), [(0,), (0, 1)], ([0], (0, 1)), ((), (0, 1)), ((0, 1), (0, 1)),
            ((3,), (0, 1)),
            ((-1,), (0, 1)), ((True,), (0, 1)), ((0,), (1, 1)), ((0,), "half"), (0, (0, 1)), ((0,), "all"),
            ((0, 1), (0,)),
            ((None,), (0, 1)), (((0,),), (0, 1))])
        self.refused(("may pass", TRIPLE, 2, BOW, (1, 2)), [((1, 0), (0, 1)), ((0, 0), (0, 1)), ((0,), (0, 1)),
                                                            ((), (0, 1)),
                                                            ((0, 1, 2), (0, 1)), ((0, 1), (-1, 1)), ((0, 3), (0, 1))])
        self.refused(("may pass", LONE, 2, "all", (0, 1)), [((0,), (0, 1)), ((), (0, 1)), ((0, 0), (0, 1)),
                                                            ((0, 1), (0, 1))])
        # just the level
        self.refused(("may pass", PAIR, 1, "all", (1, 1)), [((0,), (0, 1)), ((1,), (2, 3))])
        self.assertIs(accepts(("may pass", PAIR, 1, "all", (HUGE - 1, HUGE)), ((1,), (2, 3))), True)

    def test_barred(self):
        self.refused(("barred", (ONE, TWO)), [PAIR, (ONE,), (ONE, LESS, ONE), (ONE, LESS, NIL), list(DOWN), (ONE, NIL),
                                              ONE, (NIL, NIL)])
        # just 0 is not below it
        self.refused(("barred", (NIL, ONE)), [(ONE,), (NIL, ONE), PAIR, (ONE, I)])
        self.assertIs(accepts(("barred", (NIL, ONE)), (ONE, real(-1, HUGE))), True)

    def test_best(self):
        self.refused(("best", 2, POINTS, (HALF, HALF)), [
            (), (HALF,), (HALF, NIL, NIL), [HALF, NIL], (NIL, HALF), (HALF, HALF), (HALF, real(1, HUGE)), (ONE, NIL),
            ((1, 2), (0, 1)), (HALF, None), (((2, 4), (0, 1)), NIL)])
        # other rows through the points have no multipliers
        self.refused(("best", 2, (((0, 1), ONE),), LONE + (NIL,)), [(ONE,), (HALF,), (NIL,), (real(2),)])
        self.refused(("best", 2, (((0, 1), ONE),), (ONE, ONE)), [(ONE,), (HALF,)])


class Claims(unittest.TestCase):
    def test_what_is_not_so_is_never_accepted(self):
        papers = [()] + [paper for _, more in SO for paper in more if paper != ()] + STRAYS
        for claim in NOT_SO:
            for k, paper in enumerate(papers):
                with self.subTest(claim[0], k=k):
                    self.assertIs(accepts(claim, paper), False)

    def test_each_part_exchanged(self):
        for claim, papers in SO:
            for k in range(len(claim)):
                for j, stray in enumerate([None, True, -1, "", [], {}, (1, 0), (True, 1), deep(14), Touchy(),
                                           (Touchy(),), object(),
                                           b"all", 10 ** 9, list(claim[k]) if isinstance(claim[k],
                                                                                         tuple) else [claim[k]],
                                           (claim[k],), ((Touchy(), (0, 1)),), "same  power"]):
                    with self.subTest(claim[0], k=k, j=j):
                        bent = claim[:k] + (stray,) + claim[k + 1:]
                        self.assertIs(accepts(bent, papers[0]), False)

    def test_parts_too_many_or_too_few(self):
        for claim, papers in SO:
            for bent in [claim[:-1], claim + ((),), claim + (claim[-1],), claim[1:], claim[:1], list(claim), (claim,),
                         claim + claim,
                         claim[:1] + claim[2:], (claim[0].upper(),) + claim[1:], (claim[0] + " ",) + claim[1:],
                         (claim[0].encode(),) + claim[1:], (" " + claim[0],) + claim[1:]]:
                for paper in papers:
                    self.assertIs(accepts(bent, paper), False)

    def test_true_and_false_are_no_numbers(self):
        for claim, papers in [(("nulls", PAIR, "all", True), ()), (("nulls", PAIR, BOW, False), ()),
                              (("rank", (ONE,), True), ()),
                              (("rank", (NIL,), False), ()), (("stays below", TRIPLE, True, "all", (4, 1)), ()),
                              (("least lobe", True, (1, 1), (1, 1)), ()), (("split", PAIR, (0, True, 0)), ()),
                              (("split", PAIR, (False, 1, 0)), ()),
                              (("may pass", TRIPLE, False, "all", (8, 1)), ((), (0, 1))),
                              (("best", True, (((0, 1), ONE),), LONE), (ONE,)), (("gain", LONE, (0, 1), (True, 1)), ()),
                              (("gain", LONE, (0, 1), (1, True)), ()), (("null", PAIR, (True, 1)), ()),
                              (("may pass", TRIPLE, 1, "all", (3, 1)), ((False,), (0, 1))),
                              (("best", 2, POINTS, (HALF, HALF)), (((True, 2), (0, 1)), NIL)),
                              (("best", 2, POINTS, (HALF, HALF)), (HALF, ((False, 1), (0, 1))))]:
            self.assertIs(accepts(claim, papers), False)
        self.assertIs(accepts(("nulls", PAIR, "all", 1), ()), True)

    def test_counts(self):
        for counts in [[0, 1, 0], (0, 1), (0, 1, 0, 0), "010", None, ((0, 1, 0),), (0, 1, None), (0, 1, "0"),
                       (0, 1, Touchy())]:
            self.assertIs(accepts(("split", PAIR, counts), ()), False)
        for count in [None, "1", (1,), [1], 2, Touchy(), "endless", (1, 1)]:
            self.assertIs(accepts(("nulls", PAIR, "all", count), ()), False)
        for value in [1, "1", [3, 1], (6, 2), None, Touchy(), (3, -1), ((3, 1), (0, 1))]:
            self.assertIs(accepts(("gain", TRIPLE, (0, 1), value), ()), False)

    def test_any_values(self):
        for first in NO_VALUES + STRAYS:
            for second in NO_VALUES + STRAYS:
                self.assertIs(accepts(first, second), False)
        for first in NO_VALUES:
            self.assertIs(accepts((first,), ()), False)
            self.assertIs(accepts((first, PAIR), ()), False)
            self.assertIs(accepts(("dies away", first), ()), False)
            self.assertIs(accepts(("null", PAIR, first), first), False)

    def test_fourteen_deep(self):
        value = (ONE, LESS)
        for claim, papers in SO:
            for paper in (deep(14), (deep(13),), (deep(13), deep(13)), (deep(13),) * 3, ((deep(12), deep(12)),)):
                self.assertIs(accepts(claim, paper), False)
        self.assertIs(accepts((deep(13),), ()), False)
        self.assertIs(accepts(("barred", (ONE, TWO)), value), True)

    def test_nothing_is_looked_at_that_is_not_of_its_kind(self):
        # slacks go with the row, points with the numbers of masts
        for claim in [("sure", PAIR, ((1, 4),), BOW, (5, 2)), ("sure", PAIR, ((1, 4),) * 3, BOW, (5, 2)),
                      ("sure", PAIR, ((1, 4), (-1, 4)), BOW, (5, 2)), ("best", 2, ((0, 1), ONE), (HALF, HALF)),
                      ("best", 2, POINTS[:1] * 2, (HALF, HALF)), ("best", 2, (), (HALF, HALF)),
                      ("null", (NIL, NIL), "half"),
                      ("same power", (NIL,), (NIL,)), ("of waves", (I,)), ("of waves", (NIL,) * 9), ("wished", ()),
                      ("stays", (NIL, NIL))]:
            for paper in [(), (HALF, NIL), (HALF,), (HALF, HALF)]:
                self.assertIs(accepts(claim, paper), False)


class Beside(unittest.TestCase):
    def test_each_sort_has_its_certificate(self):
        self.assertEqual(len([name for name in vars(certificates) if name.startswith("certify_")]), 16)

    def test_errors_are_tried_one_by_one(self):
        # what the checker accepts is so: with the errors in the paper by Python's fractions
        steps = [Fraction(k, 8) for k in range(-2, 3)]
        for a in steps:
            for b in steps:
                for turn in ("half", (0, 1), (1, 1), (2, 1)):
                    errors = (oracle.told((a, b)), oracle.told((b, -a)))
                    feeds = tuple(oracle.told((1 + x, y)) for x, y in [(a, b), (b, -a)])
                    wanted = oracle.power(feeds, turn) > Fraction(9, 4) and a * a + b * b <= Fraction(1, 16)
                    self.assertIs(accepts(("unsure", PAIR, QUARTERS, "all", (3, 2)), (turn, errors)), wanted)

    def test_gains(self):
        for turn in ("half", (0, 1), (1, 1), (-2, 3)):
            self.assertIs(accepts(("gain", TRIPLE, turn, gain(TRIPLE, turn)), ()), True)
            self.assertIs(accepts(("gain", TRIPLE, turn, (HUGE, 7)), ()), False)
