"""Values for the tests: ordinary ones, edges, and what is refused."""

NIL = ((0, 1), (0, 1))
ONE = ((1, 1), (0, 1))
TWO = ((2, 1), (0, 1))
I = ((0, 1), (1, 1))
LESS = ((-1, 1), (0, 1))
HUGE = 10 ** 5000 + 1
WAVE = (TWO, ONE)


class Touchy:
    """What raises whenever it is looked at."""

    def refuse(self, *_):
        raise RuntimeError("looked at")

    __eq__ = __ne__ = __lt__ = __le__ = __gt__ = __ge__ = refuse
    __len__ = __bool__ = __hash__ = __iter__ = __getitem__ = __contains__ = refuse
    __add__ = __radd__ = __mul__ = __rmul__ = __sub__ = __neg__ = __index__ = __int__ = refuse
    __str__ = refuse


def deep(levels):
    value = ()
    for _ in range(levels - 1):
        value = (value,)
    return value


def real(n, m=1):
    """The complex number n / m, the fraction being reduced."""
    return (n, m), (0, 1)


NO_VALUES = [None, True, False, "", "all ", "Half", "half ", b"half", b"all", (), [], {}, set(), object(), Touchy(),
             deep(14), int, (None, None), (Touchy(), Touchy()), range(2), {(1, 1): (1, 1)}, Ellipsis]
WHOLE = [0, 1, -1, 2, HUGE]
NO_FRACTIONS = NO_VALUES + WHOLE + [
    "half", "all", [1, 1], (1,), (1, 1, 1), (1, 0), (0, 0), (0, 2), (0, -1), (1, -1), (-1, -2), (2, 4), (-2, 4), (3, 3),
    (True, 1), (1, True), (False, 1), (None, 1), (1, None), ("1", 1), (1, "1"), ((1, 1), 1), (2 * HUGE, 2),
    (1, -HUGE), (Touchy(), 1), (1, Touchy()), ((1, 1), (1, 1))]
FRACTIONS = [(0, 1), (1, 1), (-1, 1), (1, 2), (-3, 7), (HUGE, 1), (-1, HUGE), (HUGE, HUGE - 1)]
NO_COMPLEXES = NO_VALUES + WHOLE + FRACTIONS + [
    "half", ((1, 1),), ((1, 1), (0, 1), (0, 1)), [(1, 1), (0, 1)], ((1, 1), [0, 1]), ([1, 1], (0, 1)), ((2, 4), (0, 1)),
    ((1, 1), (0, 2)), ((1, 0), (0, 1)), ((1, 1), (0, -1)), ((True, 1), (0, 1)), ((1, 1), (0, True)), ((1, 1), 0),
    (1, (0, 1)), ((1, 1), "half"), (None, (0, 1)), ((1, 1), Touchy()), ((2 * HUGE, 2), (0, 1)), (ONE, ONE)]
COMPLEXES = [NIL, ONE, I, LESS, ((1, 2), (-3, 4)), ((HUGE, 1), (-1, HUGE))]
NO_TURNS = [value for value in NO_FRACTIONS if not (isinstance(value, str) and value == "half")] + COMPLEXES
TURNS = FRACTIONS + ["half", "ha" + "lf"]
NO_ARCS = [value for value in NO_VALUES + WHOLE if not (isinstance(value, str) and value == "all")] + FRACTIONS + [
    "half", ((0, 1),), ((0, 1), (1, 1), (2, 1)), [(0, 1), (1, 1)], ((1, 1), (1, 1)), ("half", "half"), ("all", "all"),
    ("all", (0, 1)), ((0, 1), "all"), ((0, 1), (2, 2)), ((0, 1), (1, 0)), ((0, 1), [1, 1]), ((0, 1), None),
    (Touchy(), (0, 1)), ((0, 1), Touchy()), ((0, 1), (True, 1)), (0, 1), "half", (ONE, TWO)]
ARCS = ["all", ((0, 1), (1, 1)), ((1, 1), (0, 1)), ("half", (0, 1)), ((0, 1), "half"), ((1, 1), (-1, 1)),
        ((HUGE, 1), (1, HUGE))]
NO_LAGS = NO_VALUES + WHOLE + FRACTIONS + COMPLEXES + [
    "half", "all", [ONE], [TWO, ONE], (I,), (I, ONE), (((1, 1), (1, 2)), ONE), (ONE,) * 9, (ONE,) * 20, (ONE, None),
    (ONE, (1, 1)), (ONE, 1), (ONE, ((2, 2), (0, 1))), (((2, 4), (0, 1)),), (((True, 1), (0, 1)),), (Touchy(),),
    (ONE, Touchy()), (list(ONE),), (ONE, [(1, 1), (0, 1)])]
LAGS = [(NIL,), (ONE,), WAVE, (ONE, I), (NIL, I), (ONE,) * 8, (NIL,) * 8, (TWO, ONE, NIL), (real(HUGE), I),
        (real(-3, 4), ((HUGE, 7), (1, HUGE)))]
NO_SIGNS = NO_VALUES + [0, 2, -2, HUGE, (1, 1), (1,), "1", "-1", [1]]
NO_PARTS = NO_VALUES + [0, -1, 1000001, -1000000, HUGE, -HUGE, (1, 1), (10,), "10", [1]]
NO_COUNTS = NO_VALUES + [61, -61, 1000, HUGE, -HUGE, (1, 1), (2,), "2", [1]]
HALF = real(1, 2)
NO_ROWS = NO_VALUES + WHOLE + FRACTIONS + COMPLEXES + [
    "half", "all", (NIL,), (NIL,) * 8, (ONE,) * 9, (NIL,) * 8 + (ONE,), (ONE,) * 20, [ONE], [ONE, TWO], (ONE, None),
    (ONE, (1, 1)), (ONE, 1), (ONE, ((2, 2), (0, 1))), (((2, 4), (0, 1)),), (((True, 1), (0, 1)),), (Touchy(),),
    (ONE, Touchy()), (list(ONE),), (ONE, [(1, 1), (0, 1)]), (NIL, NIL), ((ONE,),)]
ROWS = [(TWO, ONE), (ONE,), (I,), (ONE, ONE), (NIL, ONE), (ONE, NIL), (NIL, I, NIL), (ONE,) * 8, (NIL,) * 7 + (ONE,),
        (ONE,) + (NIL,) * 7, (ONE, NIL, NIL, LESS), (real(HUGE), ((1, HUGE), (HUGE, 7))), (I, TWO, LESS, NIL, ONE)]
# of two masts, and nothing is sent toward no direction
LOUD = [(TWO, ONE), (ONE, NIL), (NIL, I), (ONE, real(-3, 7)), (real(HUGE), I)]
NO_FEEDS = NO_COMPLEXES + [NIL, ((0, 1), (0, 1))]
NO_CONTENTS = NO_FRACTIONS + [(-1, 1), (-1, HUGE), (-HUGE, 1)]
CONTENTS = [(0, 1), (1, 1), (1, 2), (HUGE, 1), (1, HUGE), (22, 7)]
NO_MANY = NO_VALUES + [0, -1, 9, 10, HUGE, -HUGE, (1, 1), (2,), "2", [1]]
NO_STEPS = NO_VALUES + [0, -1, -HUGE, (1, 1), (2,), "2", [1]]
NO_SILENT = NO_VALUES + [-1, 3, 8, HUGE, -HUGE, (1, 1), (2,), "2", [1]]
# arcs that a turn is told on: none has half on it
NO_PLAIN_ARCS = NO_ARCS + ["all", ("half", (0, 1)), ((0, 1), "half"), ((1, 1), (-1, 1)), ((1, 1), (0, 1)),
                           ((HUGE, 1), (-HUGE, 1))]
PLAIN_ARCS = [((-1, 1), (1, 1)), ((-HUGE, 1), (HUGE, 1)), ((0, 1), (1, HUGE))]
# wrong slacks of two feeds, and what is told of them
NO_SLACKS = [(value, None) for value in NO_VALUES + WHOLE if not isinstance(value, tuple) or len(value) != 2] + [
    ((), None), ([(0, 1), (0, 1)], None), (((0, 1),), None), (((0, 1),) * 3, None), ("ab", None), ((None, None), 0),
    ((Touchy(), (0, 1)), 0), (((0, 1), Touchy()), 1), (((0, 1), (-1, 2)), 1), (((-1, 2), (0, 1)), 0),
    (((-1, 2), (-1, 2)), 0), (((0, 1), 0), 1), ((0, (0, 1)), 0), (((0, 1), (2, 2)), 1), (((0, 1), [0, 1]), 1),
    (((0, 1), (True, 1)), 1), (((0, 1), "half"), 1), ((0, 1), 0), ((ONE, (0, 1)), 0), (((-1, HUGE), (0, 1)), 0)]
SLACKS = [((0, 1), (0, 1)), ((1, 3), (0, 1)), ((0, 1), (1, HUGE)), ((HUGE, 1), (HUGE, 1))]
# wrong indexes of two feeds, and what is told of them
NO_INDEXES = [(value, None) for value in NO_VALUES + WHOLE if not isinstance(value, tuple)] + [
    ([0], None), ("0", None), (range(2), None), ((-1,), 0), ((2,), 0), ((0, 2), 1), ((0, 0), 1), ((1, 0), 1),
    ((0, 1, 2), 2), ((0, 1, 1), 2), ((True,), 0), ((False, 1), 0), ((0, True), 1), ((None,), 0), ((0, None), 1),
    (("0",), 0), (((0,),), 0), ((Touchy(),), 0), ((0, Touchy()), 1), ((HUGE,), 0), ((-HUGE,), 0), (((1, 1),), 0),
    ((0, -1), 1), ((0, -2), 1), ((0, (1, 1)), 1), (((),), 0)]
INDEXES = [(), (0,), (1,), (0, 1)]
# wrong points, and what is told of them
ORIGIN = ((0, 1), ONE)
EIGHT = tuple(((k, 1), ONE) for k in range(8))
NO_POINTS = [(value, None) for value in NO_VALUES + WHOLE if not isinstance(value, tuple)] + [
    ((), 0), ([ORIGIN], None), ("ab", None), ({(0, 1): ONE}, None), ((ORIGIN, ORIGIN), 1), (ORIGIN, 0),
    ((None,), 0), ((ORIGIN, None), 1), ((list(ORIGIN),), 0), ((((0, 1),),), 0), ((((0, 1), ONE, ONE),), 0),
    ((((2, 2), ONE),), 0), (("half", ONE), 0), ((("half", ONE), ("half", NIL)), 1), ((("all", ONE),), 0),
    ((ORIGIN, (ONE, (0, 1))), 1), (((ONE, (0, 1)),), 0), ((((0, 1), (0, 1)),), 0), ((((0, 1), None),), 0),
    (((None, ONE),), 0), (((Touchy(), ONE),), 0), ((((0, 1), Touchy()),), 0), ((ORIGIN, Touchy()), 1),
    ((Touchy(), ORIGIN), 0), (EIGHT + (("half", ONE),), 8), (EIGHT + (None,), 8), (EIGHT + (None, None), 8),
    (EIGHT * 2, 8), (EIGHT[:7] + (None,), 7), (EIGHT[:7] + EIGHT[:1], 7), (EIGHT[:2] + EIGHT[:2], 2),
    ((ORIGIN, ((1, 1), ((2, 2), (0, 1)))), 1), ((((0, 1), [(1, 1), (0, 1)]),), 0), ((((0, 1), "1 0"),), 0),
    ((((True, 1), ONE),), 0), (((0, ONE),), 0)]
POINTS = [(ORIGIN,), (("half", NIL), ORIGIN), EIGHT, ((("ha" + "lf"), I),), (((HUGE, 1), ONE), ((-1, HUGE), NIL))]
NO_AMOUNTS = NO_CONTENTS + [(0, 1)]
AMOUNTS = [(1, 1), (3, 4), (7, 2), (HUGE, 1), (1, HUGE)]
# wrong mirror numbers, and what is told of them
SEVEN = (HALF,) * 7
NO_MIRRORS = [(value, None) for value in NO_VALUES + WHOLE if not isinstance(value, tuple)] + [
    ([HALF], None), ("ab", None), (range(2), None), ((ONE,), 0), ((I,), 0), ((HALF, LESS), 1), ((TWO, HALF), 0),
    ((((3, 5), (4, 5)),), 0), ((HALF, ((3, 5), (-4, 5))), 1), ((None,), 0), ((HALF, None), 1), ((Touchy(),), 0),
    ((HALF, Touchy()), 1), (((1, 2),), 0), ((HALF, (1, 2)), 1), ((0,), 0), ((HALF, 0), 1), (HALF, 0),
    ((((2, 4), (0, 1)),), 0), ((list(HALF),), 0), (((False, (0, 1)),), 0), ((real(HUGE, HUGE - 1),), 0),
    ((HALF, (real(1, 2), (0, 1))), 1), (SEVEN + (HALF,), 7), (SEVEN + (None,), 7), (SEVEN + (ONE, ONE), 7),
    (SEVEN[:6] + (ONE,), 6), (SEVEN[:6] + (None, HALF), 6), (SEVEN + SEVEN, 7), ((NIL,) * 8, 7), (("half",), 0)]
MIRRORS = [(), (HALF,), (NIL,) * 7, SEVEN, (((3, 5), (-3, 5)), real(-9, 10)), (real(HUGE - 1, HUGE),)]
# rows of the degree 1, and wrong beginnings for them
LOOPS = [(TWO, ONE), (ONE, real(-3, 7)), (I, LESS), (real(HUGE), I), (((1, HUGE), (HUGE, 7)), ONE), (ONE, ONE, NIL)]
NO_LOOPS = NO_ROWS + [(NIL, ONE), (NIL, NIL, I), (NIL,) * 7 + (ONE,), (NIL, real(HUGE), NIL)]
NO_BEGINNINGS = [(value, None) for value in NO_VALUES + WHOLE if not isinstance(value, tuple) or len(value) != 1] + [
    ([ONE], None), ("a", None), ({0: ONE}, None), ((ONE, ONE), None), (ONE, None), ((None,), 0), ((Touchy(),), 0),
    (((1, 1),), 0), ((0,), 0), ((list(ONE),), 0), ((((2, 2), (0, 1)),), 0), (("half",), 0), ((((1, 1), 0),), 0),
    ((((True, 1), (0, 1)),), 0), ((ONE,) * 60, None)]
BEGINNINGS = [(ONE,), (NIL,), (real(HUGE),), (((1, HUGE), (-HUGE, 7)),)]
NO_RUNS = NO_VALUES + [-1, 61, 1000, HUGE, -HUGE, (1, 1), (2,), "2", [1]]
