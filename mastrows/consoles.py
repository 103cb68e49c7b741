"""The console: a workshop by lines of text."""

from mastrows.demands import is_name
from mastrows.errors import InvalidPhrase, NotAWorkshop
from mastrows.points import noise_of
from mastrows.rows import nulls_on, power_at, sent
from mastrows.texts import (complex_text, fraction_text, read_complex, read_row, read_turn, read_whole, row_text,
                            whole_text)
from mastrows.turns import ALL
from mastrows.workshops import Workshop

DONE = "done"


def answer_row(shop, name, row):
    """Put a row there."""
    shop.put(name, row)
    return DONE


def answer_feed(shop, name, index, number):
    """Give one feed another number."""
    shop.feed(name, index, number)
    return DONE


def answer_forget(shop, name):
    """Take a row away."""
    shop.forget(name)
    return DONE


def answer_undo(shop):
    """Take back the last change."""
    shop.undo()
    return DONE


def answer_show(shop, name):
    """The text of a row."""
    return row_text(shop.named(name))


def answer_sent(shop, name, turn):
    """The text of what a row sends toward the turn."""
    return complex_text(sent(shop.named(name), turn))


def answer_power(shop, name, turn):
    """The text of a row's power at the turn."""
    return fraction_text(power_at(shop.named(name), turn))


def answer_noise(shop, name):
    """The text of a row's noise."""
    return fraction_text(noise_of(shop.named(name)))


def answer_nulls(shop, name):
    """How many directions have none of a row's power."""
    return whole_text(nulls_on(shop.named(name), ALL))


def answer_names(shop):
    """All names."""
    return " ".join(shop.names) if shop.names else "none"


ANSWERS = {
    "row": answer_row, "feed": answer_feed, "forget": answer_forget, "undo": answer_undo, "show": answer_show,
    "sent": answer_sent, "power": answer_power, "noise": answer_noise, "nulls": answer_nulls, "names": answer_names,
}


class Console:
    """Answers lines of text about a workshop."""

    def __init__(self, shop):
        if not isinstance(shop, Workshop):
            raise NotAWorkshop(shop)
        self._shop = shop

    def __eq__(self, other):
        return self is other

    def say(self, line):
        """The answer to a line."""
        phrase = read_phrase(line) if isinstance(line, str) else None
        if phrase is None:
            raise InvalidPhrase(line)
        word, things = phrase
        action = ANSWERS[word]
        return action(self._shop, *things)


def read_phrase(line):
    """The pair of the word of a line and the tuple of the things in it; None for no line of any form."""
    head, colon, text = line.partition(": ")
    words = head.split(" ")
    things = told_things(words, text) if colon else plain_things(words)
    return None if things is None or None in things else (words[0], things)


def plain_things(words):
    """The things in a line without a colon; None for no such line."""
    if words[0] in ("undo", "names") and len(words) == 1:
        return ()
    if words[0] in ("forget", "show", "noise", "nulls") and len(words) == 2 and is_name(words[1]):
        return (words[1],)
    return None


def told_things(words, text):
    """The things in a line with a text behind a colon, None in the place of what is none; None for no such line."""
    if len(words) < 2 or not is_name(words[1]):
        return None
    word, name, rest = words[0], words[1], words[2:]
    if word == "row" and not rest:
        return name, read_row(text)
    if word == "feed" and len(rest) == 1:
        return name, read_index(rest[0]), read_complex(text)
    if word in ("sent", "power") and not rest:
        return name, read_turn(text)
    return None


def read_index(text):
    """The whole number from 0 on of a text; None for other texts."""
    number = read_whole(text)
    return None if number is None or number < 0 else number
