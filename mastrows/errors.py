"""The errors of Mastrows: MastError, and all others under it alone.

No message shows the value that was passed: Python refuses to write out very
long numbers, and an error must be there for these, too.
"""


class MastError(ValueError):
    """An argument is refused, or a question has no answer."""

    def __eq__(self, other):
        return self is other


class InvalidFraction(MastError):
    """The value is no fraction."""

    def __init__(self, given):
        super().__init__("no fraction")
        self.given = given


class InvalidAmount(MastError):
    """The value is no fraction above 0."""

    def __init__(self, given):
        super().__init__("no amount")
        self.given = given


class InvalidContent(MastError):
    """The value is no fraction from 0 on."""

    def __init__(self, given):
        super().__init__("no content")
        self.given = given


class InvalidNumber(MastError):
    """The value is no whole number within its bounds."""

    def __init__(self, given):
        super().__init__("no whole number within the bounds")
        self.given = given


class InvalidIndex(MastError):
    """The value is no index of what is asked for."""

    def __init__(self, given):
        super().__init__("no index")
        self.given = given


class InvalidSign(MastError):
    """The value is neither 1 nor -1."""

    def __init__(self, given):
        super().__init__("neither 1 nor -1")
        self.given = given


class InvalidComplex(MastError):
    """The value is no complex number that may stand here."""

    def __init__(self, given):
        super().__init__("no complex number")
        self.given = given


class NotOnCircle(MastError):
    """The complex number has not the size 1."""

    def __init__(self, given):
        super().__init__("not of size 1")
        self.given = given


class InvalidTurn(MastError):
    """The value is no turn that may stand here."""

    def __init__(self, given):
        super().__init__("no turn")
        self.given = given


class InvalidArc(MastError):
    """The value is no arc that may stand here."""

    def __init__(self, given):
        super().__init__("no arc")
        self.given = given


class InvalidLags(MastError):
    """The value is no lags."""

    def __init__(self, given):
        super().__init__("no lags")
        self.given = given


class InvalidRow(MastError):
    """The value is no row that may stand here."""

    def __init__(self, given):
        super().__init__("no row")
        self.given = given


class InvalidName(MastError):
    """The value is no name."""

    def __init__(self, given):
        super().__init__("no name")
        self.given = given


class InvalidDemand(MastError):
    """The value is no demand."""

    def __init__(self, given):
        super().__init__("no demand")
        self.given = given


class InvalidPhrase(MastError):
    """The value is no phrase of the console."""

    def __init__(self, given):
        super().__init__("no phrase")
        self.given = given


class UnknownName(MastError):
    """The value is no name of a row that is kept."""

    def __init__(self, given):
        super().__init__("a name that is not here")
        self.given = given


class NotAWorkshop(MastError):
    """The value is no workshop."""

    def __init__(self, given):
        super().__init__("no workshop")
        self.given = given


class InvalidSlacks(MastError):
    """The value is no slacks of the row."""

    def __init__(self, index):
        super().__init__("no slacks")
        self.index = index


class InvalidIndexes(MastError):
    """The value is no ascending tuple of indexes of feeds."""

    def __init__(self, index):
        super().__init__("no indexes")
        self.index = index


class InvalidPoints(MastError):
    """The value is no points for a row."""

    def __init__(self, index):
        super().__init__("no points")
        self.index = index


class InvalidMirrors(MastError):
    """The value is no mirror numbers."""

    def __init__(self, index):
        super().__init__("no mirror numbers")
        self.index = index


class InvalidBeginning(MastError):
    """The value is no beginning for a row that is fed back."""

    def __init__(self, index):
        super().__init__("no beginning")
        self.index = index


class InUse(MastError):
    """A demand names what was to be forgotten."""

    def __init__(self, index):
        super().__init__("a demand names it")
        self.index = index


class Broken(MastError):
    """A demand would not hold after the change."""

    def __init__(self, index):
        super().__init__("a demand would not hold")
        self.index = index


class TooManyMasts(MastError):
    """There would be more masts than there may be."""


class NotAbove(MastError):
    """The lags do not come of waves, or are not above 0."""


class Silent(MastError):
    """The first row sends nothing where the reading is asked for."""


class NoRow(MastError):
    """There is no row through the points."""


class NothingToUndo(MastError):
    """No change is left that could be taken back."""
