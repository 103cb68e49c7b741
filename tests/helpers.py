"""Values for the tests: ordinary ones, edges, and what is refused."""

NIL = ((0, 1), (0, 1))
ONE = ((1, 1), (0, 1))
TWO = ((2, 1), (0, 1))
I = ((0, 1), (1, 1))
LESS = ((-1, 1), (0, 1))
HUGE = 10 ** 5000 + 1
WAVE = (TWO, ONE)


class Touchy:
    """What raises whenever it is looked at."""

    def refuse(self, *_):
        raise RuntimeError("looked at")

    __eq__ = __ne__ = __lt__ = __le__ = __gt__ = __ge__ = refuse
    __len__ = __bool__ = __hash__ = __iter__ = __getitem__ = __contains__ = refuse
    __add__ = __radd__ = __mul__ = __rmul__ = __sub__ = __neg__ = __index__ = __int__ = refuse
    __str__ = refuse


def deep(levels):
    value = ()
    for _ in range(levels - 1):
        value = (value,)
    return value


def real(n, m=1):
    """The complex number n / m, the fraction being reduced."""
    return (n, m), (0, 1)


NO_VALUES = [None, True, False, "", "all ", "Half", "half ", b"half", b"all", (), [], {}, set(), object(), Touchy(),
             deep(14), int, (None, None), (Touchy(), Touchy()), range(2), {(1, 1): (1, 1)}, Ellipsis]
WHOLE = [0, 1, -1, 2, HUGE]
NO_FRACTIONS = NO_VALUES + WHOLE + [
    "half", "all", [1, 1], (1,), (1, 1, 1), (1, 0), (0, 0), (0, 2), (0, -1), (1, -1), (-1, -2), (2, 4), (-2, 4), (3, 3),
    (True, 1), (1, True), (False, 1), (None, 1), (1, None), ("1", 1), (1, "1"), ((1, 1), 1), (2 * HUGE, 2),
    (1, -HUGE), (Touchy(), 1), (1, Touchy()), ((1, 1), (1, 1))]
FRACTIONS = [(0, 1), (1, 1), (-1, 1), (1, 2), (-3, 7), (HUGE, 1), (-1, HUGE), (HUGE, HUGE - 1)]
NO_COMPLEXES = NO_VALUES + WHOLE + FRACTIONS + [
    "half", ((1, 1),), ((1, 1), (0, 1), (0, 1)), [(1, 1), (0, 1)], ((1, 1), [0, 1]), ([1, 1], (0, 1)), ((2, 4), (0, 1)),
    ((1, 1), (0, 2)), ((1, 0), (0, 1)), ((1, 1), (0, -1)), ((True, 1), (0, 1)), ((1, 1), (0, True)), ((1, 1), 0),
    (1, (0, 1)), ((1, 1), "half"), (None, (0, 1)), ((1, 1), Touchy()), ((2 * HUGE, 2), (0, 1)), (ONE, ONE)]
COMPLEXES = [NIL, ONE, I, LESS, ((1, 2), (-3, 4)), ((HUGE, 1), (-1, HUGE))]
NO_TURNS = [value for value in NO_FRACTIONS if not (isinstance(value, str) and value == "half")] + COMPLEXES
TURNS = FRACTIONS + ["half", "ha" + "lf"]
NO_ARCS = [value for value in NO_VALUES + WHOLE if not (isinstance(value, str) and value == "all")] + FRACTIONS + [
    "half", ((0, 1),), ((0, 1), (1, 1), (2, 1)), [(0, 1), (1, 1)], ((1, 1), (1, 1)), ("half", "half"), ("all", "all"),
    ("all", (0, 1)), ((0, 1), "all"), ((0, 1), (2, 2)), ((0, 1), (1, 0)), ((0, 1), [1, 1]), ((0, 1), None),
    (Touchy(), (0, 1)), ((0, 1), Touchy()), ((0, 1), (True, 1)), (0, 1), "half", (ONE, TWO)]
ARCS = ["all", ((0, 1), (1, 1)), ((1, 1), (0, 1)), ("half", (0, 1)), ((0, 1), "half"), ((1, 1), (-1, 1)),
        ((HUGE, 1), (1, HUGE))]
NO_LAGS = NO_VALUES + WHOLE + FRACTIONS + COMPLEXES + [
    "half", "all", [ONE], [TWO, ONE], (I,), (I, ONE), (((1, 1), (1, 2)), ONE), (ONE,) * 9, (ONE,) * 20, (ONE, None),
    (ONE, (1, 1)), (ONE, 1), (ONE, ((2, 2), (0, 1))), (((2, 4), (0, 1)),), (((True, 1), (0, 1)),), (Touchy(),),
    (ONE, Touchy()), (list(ONE),), (ONE, [(1, 1), (0, 1)])]
LAGS = [(NIL,), (ONE,), WAVE, (ONE, I), (NIL, I), (ONE,) * 8, (NIL,) * 8, (TWO, ONE, NIL), (real(HUGE), I),
        (real(-3, 4), ((HUGE, 7), (1, HUGE)))]
NO_SIGNS = NO_VALUES + [0, 2, -2, HUGE, (1, 1), (1,), "1", "-1", [1]]
NO_PARTS = NO_VALUES + [0, -1, 1000001, -1000000, HUGE, -HUGE, (1, 1), (10,), "10", [1]]
NO_COUNTS = NO_VALUES + [61, -61, 1000, HUGE, -HUGE, (1, 1), (2,), "2", [1]]
