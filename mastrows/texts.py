"""Texts of numbers, turns and rows: each thing has just one, and what is no text is read as None."""

from mastrows.fracs import is_fraction
from mastrows.rows import is_row
from mastrows.turns import HALF

DIGITS = "0123456789"
# Python itself neither reads nor writes numbers of very many figures at once.
MOST_AT_ONCE = 64
BLOCK = 10 ** 64


def whole_text(number):
    """The text of a whole number, as `str` would write it."""
    parts, rest = [], abs(number)
    while rest >= BLOCK:
        rest, part = divmod(rest, BLOCK)
        parts.append(str(part).zfill(MOST_AT_ONCE))
    return ("-" if number < 0 else "") + str(rest) + "".join(parts[::-1])


def fraction_text(fraction):
    """The text of a fraction."""
    top, bottom = fraction
    return whole_text(top) if bottom == 1 else f"{whole_text(top)}/{whole_text(bottom)}"


def complex_text(number):
    """The text of a complex number."""
    return f"{fraction_text(number[0])} {fraction_text(number[1])}"


def row_text(row):
    """The text of a row."""
    return "; ".join([complex_text(feed) for feed in row])


def read_whole(text):
    """The whole number of a text."""
    digits = text.removeprefix("-")
    if digits == "" or digits.strip(DIGITS) != "":
        return None
    if digits[0] == "0" and text != "0":
        return None
    # With noughts ahead all pieces are of the same length.
    padded, total = "0" * (-len(digits) % MOST_AT_ONCE) + digits, 0
    for start in range(0, len(padded), MOST_AT_ONCE):
        total = total * BLOCK + int(padded[start:start + MOST_AT_ONCE])
    return total if digits == text else -total


def read_fraction(text):
    """The fraction of a text."""
    first, slash, second = text.partition("/")
    top = read_whole(first)
    bottom = read_whole(second) if slash else 1
    if top is None or bottom is None or (slash and bottom == 1) or not is_fraction((top, bottom)):
        return None
    return top, bottom


def read_complex(text):
    """The complex number of a text."""
    parts = [read_fraction(part) for part in text.split(" ")]
    if len(parts) != 2 or None in parts:
        return None
    return parts[0], parts[1]


def read_row(text):
    """The row of a text."""
    row = tuple([read_complex(part) for part in text.split("; ")])
    return row if is_row(row) else None


def read_turn(text):
    """The turn of a text."""
    return HALF if text == HALF else read_fraction(text)
