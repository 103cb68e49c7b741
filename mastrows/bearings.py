"""Two rows that tell a turn by the reading: the power of the other one over that of the first."""

from mastrows.errors import InvalidArc, InvalidTurn, Silent
from mastrows.forms import better_half, core_of, sign_at
from mastrows.fracs import check_content, check_whole, fraction_less, fraction_quotient, reduced
from mastrows.patterns import (MOST_PARTS, difference_of, form_of, is_nought, product_of, sign_row, slope_of,
                               stretches_on, told_vectors)
from mastrows.rows import MOST_MASTS, check_row, lags_from_row, null_count, power_toward
from mastrows.turns import ALL, HALF, check_arc, check_turn, is_within, turn_toward

TELLS = "tells"
FOLDS = "folds"
SAME = "same"


def reading_at(row, other, turn):
    """The power of the other row at the turn divided by that of the first one."""
    check_row(row)
    check_row(other)
    check_turn(turn)
    if power_toward(row, turn) == (0, 1):
        raise Silent()
    return reading_toward(row, other, turn)


def tells_turn(row, other, arc):
    """Whether both rows tell turns on the arc."""
    check_row(row)
    check_row(other)
    check_arc(arc)
    check_heard(row, arc)
    return word_on(row, other, arc) == TELLS


def word_of_reading(row, other, arc):
    """Whether the reading `tells`, `folds`, or is the `same` all over the arc."""
    check_row(row)
    check_row(other)
    check_arc(arc)
    check_heard(row, arc)
    return word_on(row, other, arc)


def folding_turns(row, other, arc):
    """Three turns of the arc, in its order, that fold the reading; None if none do."""
    check_row(row)
    check_row(other)
    check_arc(arc)
    check_heard(row, arc)
    return any_folding_turns(row, other, arc)


def turn_side(row, other, arc, reading, turn):
    """1, 0 or -1 as the direction of the arc with the reading comes later than the turn, is it, or
    comes earlier; None if the rows do not tell turns on the arc, or have this reading nowhere on it.
    """
    check_row(row)
    check_row(other)
    check_arc(arc)
    check_content(reading)
    check_turn(turn)
    if not is_within(arc, turn):
        raise InvalidTurn(turn)
    check_heard(row, arc)
    if word_on(row, other, arc) != TELLS:
        return None
    low, here, high = [sign_beside(row, other, reading, place) for place in (arc[0], turn, arc[1])]
    if here == 0:
        return 0
    # The reading rises or falls all along the arc, so it is met where its side is another one.
    if high != here:
        return 1
    return -1 if low != here else None


def turn_floor(row, other, arc, reading, parts):
    """The greatest whole k for which k / parts is not above the turn of the direction of the arc
    with the reading; None if the rows do not tell turns on the arc, or have it nowhere on it.
    """
    check_row(row)
    check_row(other)
    check_arc(arc)
    if arc == ALL or is_within(arc, HALF):
        raise InvalidArc(arc)
    check_content(reading)
    check_whole(parts, 1, MOST_PARTS)
    check_heard(row, arc)
    low, high = [sign_beside(row, other, reading, turn) for turn in arc]
    if word_on(row, other, arc) != TELLS or low * high > 0:
        return None
    least, most = [turn[0] * parts // turn[1] for turn in arc]
    if low == 0:
        return least
    while least < most:
        middle = (least + most + 1) // 2
        if sign_beside(row, other, reading, reduced(middle, parts)) == -low:
            most = middle - 1
        else:
            least = middle
    return least


def check_heard(row, arc):
    """Refuse a first row that sends nothing toward some direction of the arc."""
    if null_count(row, arc) > 0:
        raise Silent()


def reading_toward(row, other, turn):
    """The reading at a turn at which the first row sends something."""
    return fraction_quotient(power_toward(other, turn), power_toward(row, turn))


def sign_beside(row, other, reading, turn):
    """1, 0 or -1 as the reading at the turn is above this one, is it, or is below."""
    top = fraction_less(reading_toward(row, other, turn), reading)[0]
    return 0 if top == 0 else top // abs(top)


def growth_form(row, other):
    """A form with the signs of q' * p - q * p', p and q being the powers of the row and the other one."""
    first, second = lags_from_row(row), lags_from_row(other)
    rise = product_of(slope_of(second), first)
    return form_of(difference_of(rise, product_of(second, slope_of(first))))[0]


def word_on(row, other, arc):
    """The word of the reading on the arc, on which the first row has no null."""
    form = growth_form(row, other)
    if is_nought(form):
        return SAME
    signs = sign_row(form, arc)
    return FOLDS if arc == ALL or (1 in signs and -1 in signs) else TELLS


def any_folding_turns(row, other, arc):
    """What `folding_turns` tells."""
    form = growth_form(row, other)
    if is_nought(form):
        return None
    if arc == ALL:
        return turns_round(row, other)
    places = turning_places(form, arc)
    if not places:
        return None
    first, middle, last = places[0]
    if middle is None:
        return turns_about(row, other, core_of(form), first, last)
    return turn_toward(first), turn_toward(middle), turn_toward(last)


def turning_places(form, arc):
    """Triples of vectors of the arc: the growth has unlike signs at the first and the last one, and
    its only zero between them is at the middle one, or, if this is None, is not known.
    """
    found, last, middle = [], None, None
    for left, right, count in stretches_on(form, arc):
        for vector in told_vectors(left, right, count):
            sign = 0 if vector is None else sign_at(form, vector)
            if sign == 0:
                middle = vector
            else:
                if last is not None and sign_at(form, last) == -sign:
                    found.append((last, middle, vector))
                last = vector
    return found


def turns_about(row, other, core, first, last):
    """Folding turns about the zero of the growth between two vectors: these, and one so near to
    the zero that its reading is beyond both of theirs.
    """
    ends = [reading_toward(row, other, turn_toward(vector)) for vector in (first, last)]
    left, right = first, last
    while True:
        left, right = better_half(core, left, right)
        for vector in (left, right):
            turn = turn_toward(vector)
            if is_beyond(reading_toward(row, other, turn), ends):
                return turn_toward(first), turn, turn_toward(last)


def is_beyond(reading, ends):
    """Whether a reading is above all others, or below all."""
    gaps = [fraction_less(reading, end)[0] for end in ends]
    return min(gaps) > 0 or max(gaps) < 0


def turns_round(row, other):
    """Folding turns once round: half, one with another reading, and one behind it so near to half
    that its reading is nearer to that of half.
    """
    first = reading_toward(row, other, HALF)
    # The reading is that of half at fewer turns than these: it is not so all over.
    turns = [(k, 1) for k in range(2 * MOST_MASTS)]
    middle = [turn for turn in turns if reading_toward(row, other, turn) != first][0]
    worth = reading_toward(row, other, middle)
    last = (2 * MOST_MASTS, 1)
    while not is_beyond(worth, [first, reading_toward(row, other, last)]):
        last = (2 * last[0], 1)
    return HALF, middle, last
