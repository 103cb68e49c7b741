"""Names, and what can be demanded of the rows that a workshop keeps under them."""

from mastrows.errors import InvalidDemand, InvalidName
from mastrows.fracs import is_content
from mastrows.rows import is_null, never_more
from mastrows.silences import stays_below
from mastrows.slacks import surely_below
from mastrows.turns import is_arc, is_turn

LETTERS = "abcdefghijklmnopqrstuvwxyz"
MOST_LETTERS = 12


def is_name(value):
    """Whether a value, whatever it is, is a name."""
    return isinstance(value, str) and 1 <= len(value) <= MOST_LETTERS and value.strip(LETTERS) == ""


def check_name(given):
    """Refuse what is no name."""
    if not is_name(given):
        raise InvalidName(given)


def is_demand(value):
    """Whether a value, whatever it is, is a demand, of names that may be known or not."""
    if not isinstance(value, tuple) or len(value) < 3 or not isinstance(value[0], str) or not is_name(value[1]):
        return False
    word, parts = value[0], value[2:]
    if word == "never more":
        return len(parts) == 2 and is_name(parts[0]) and is_arc(parts[1])
    if word == "null":
        return len(parts) == 1 and is_turn(parts[0])
    if word == "below":
        return len(parts) == 2 and is_arc(parts[0]) and is_content(parts[1])
    if word == "sure":
        return len(parts) == 3 and is_content(parts[0]) and is_arc(parts[1]) and is_content(parts[2])
    return False


def check_demand(given):
    """Refuse what is no demand."""
    if not is_demand(given):
        raise InvalidDemand(given)


def names_in(demand):
    """The names in a demand, in its order."""
    return demand[1:3] if demand[0] == "never more" else demand[1:2]


def is_met(demand, rows):
    """Whether a demand holds of the rows, a dict by their names."""
    word, row = demand[0], rows[demand[1]]
    if word == "never more":
        return never_more(row, rows[demand[2]], demand[3])
    if word == "null":
        return is_null(row, demand[2])
    if word == "below":
        return stays_below(row, 0, demand[2], demand[3])
    return surely_below(row, (demand[2],) * len(row), demand[3], demand[4])
