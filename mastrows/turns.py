"""Turns, the points of the unit circle told by fractions, and arcs of directions.

Within the package a direction is also told by a vector (ACROSS, ALONG) of whole
numbers, not both 0: the turn is ACROSS / ALONG, and `half` has ALONG 0. So half
is no exception there, and vectors multiply like the points do.
"""

from mastrows.complexes import check_complex, multiplied, square_of_size
from mastrows.errors import InvalidArc, InvalidTurn, NotOnCircle
from mastrows.fracs import check_whole, fraction_product, fraction_sum, is_fraction, reduced

HALF = "half"
ALL = "all"
QUARTERS = ("half", (-1, 1), (0, 1), (1, 1))


def is_turn(value):
    """Whether a value, whatever it is, is a turn."""
    if isinstance(value, str):
        return value == HALF
    return is_fraction(value)


def is_arc(value):
    """Whether a value, whatever it is, is an arc."""
    if isinstance(value, str):
        return value == ALL
    if not isinstance(value, tuple) or len(value) != 2:
        return False
    low, high = value
    return is_turn(low) and is_turn(high) and low != high


def check_turn(given):
    """Refuse what is no turn."""
    if not is_turn(given):
        raise InvalidTurn(given)


def check_arc(given):
    """Refuse what is no arc."""
    if not is_arc(given):
        raise InvalidArc(given)


def point_of(turn):
    """The point of a turn, a complex number of size 1."""
    check_turn(turn)
    return point_toward(vector_of(turn))


def turn_of(number):
    """The turn with this point."""
    check_complex(number)
    if square_of_size(number) != (1, 1):
        raise NotOnCircle(number)
    real, imaginary = number
    if real == (-1, 1):
        return HALF
    top, bottom = fraction_sum(real, (1, 1))
    return fraction_product(imaginary, (bottom, top))


def joined_turns(turn, other):
    """The turn with the product of both points."""
    check_turn(turn)
    check_turn(other)
    return turn_toward(joined_vectors(vector_of(turn), vector_of(other)))


def back_turn(turn):
    """The turn with the conjugate point."""
    check_turn(turn)
    return turn_toward(back_vector(vector_of(turn)))


def turn_times(turn, count):
    """The turn with the point to the power of count."""
    check_turn(turn)
    check_whole(count, -60, 60)
    once = vector_of(turn)
    if count < 0:
        once = back_vector(once)
    total = (0, 1)
    for _ in range(abs(count)):
        total = joined_vectors(total, once)
    return turn_toward(total)


def is_on(arc, turn):
    """Whether the turn is one of the directions of the arc."""
    check_arc(arc)
    check_turn(turn)
    return is_within(arc, turn)


def is_within(arc, turn):
    """Whether a turn that is known to be one is a direction of an arc that is known to be one."""
    if arc == ALL:
        return True
    low, high = arc
    behind_low = not comes_before(turn, low)
    ahead_of_high = not comes_before(high, turn)
    if comes_before(low, high):
        return behind_low and ahead_of_high
    return behind_low or ahead_of_high


def is_ahead(arc, first, second):
    """Whether of two turns of the arc the first one comes ahead of the second one in its order."""
    if arc == ALL:
        return comes_before(first, second)
    return first not in (second, arc[1]) and is_within((first, arc[1]), second)


def turned_arc(arc, turn):
    """The arc of all directions of the arc, each joined with the turn."""
    check_arc(arc)
    check_turn(turn)
    if arc == ALL:
        return ALL
    low, high = arc
    return joined_turns(low, turn), joined_turns(high, turn)


def comes_before(first, second):
    """Whether the first turn comes ahead of the second one, counted from half on."""
    one, two = vector_of(first), vector_of(second)
    return one[0] * two[1] < two[0] * one[1]


def vector_of(turn):
    """A vector of the turn; half is ahead of all fractions, so it points across from below."""
    if turn == HALF:
        return -1, 0
    return turn


def turn_toward(vector):
    """The turn of a vector."""
    across, along = vector
    if along == 0:
        return HALF
    return reduced(across, along)


def point_toward(vector):
    """The point of the turn of a vector without a common divisor."""
    real, imaginary, whole = parts_of_point(vector)
    return (real, whole), (imaginary, whole)


def parts_of_point(vector):
    """Whole numbers (P, Q, S), the point being P / S + Q / S i, for a vector without a common divisor.

    S is odd, and P / S and Q / S are reduced; so are, then, both parts of all
    powers of the point over the same power of S: nothing is left to divide out.
    """
    across, along = vector
    parts = along * along - across * across, 2 * across * along, along * along + across * across
    if across % 2 == 1 and along % 2 == 1:
        return parts[0] // 2, parts[1] // 2, parts[2] // 2
    return parts


def numbers_turned_back(numbers, turn):
    """The complex numbers, each times the power, by its index, of the back of the turn's point."""
    real, imaginary, whole = parts_of_point(back_vector(vector_of(turn)))
    out, power = [], (1, 0, 1)
    for number in numbers:
        top, side, bottom = power
        out.append(multiplied(number, ((top, bottom), (side, bottom))))
        power = top * real - side * imaginary, top * imaginary + side * real, bottom * whole
    return tuple(out)


def joined_vectors(first, second):
    """A vector of the turns of both vectors joined."""
    across = first[0] * second[1] + first[1] * second[0]
    along = first[1] * second[1] - first[0] * second[0]
    return across, along


def back_vector(vector):
    """A vector of the back of the turn of a vector."""
    return -vector[0], vector[1]


def ways_of(arc):
    """The arc as pairs (LEFT, RIGHT) of vectors, one behind the other, in its order.

    The directions of a pair are those of p * LEFT + q * RIGHT, for all p and q
    from 0 on, not both 0. `all` ends where it begins, at half.
    """
    stops = stops_of(arc)
    return [way_between(stops[k - 1], stops[k]) for k in range(1, len(stops))]


def stops_of(arc):
    """The ends of the arc and, between them, the quarters of the circle that it goes over."""
    if arc == ALL:
        return QUARTERS + (HALF,)
    low, high = arc
    behind = [turn for turn in QUARTERS if comes_before(low, turn)]
    ahead = [turn for turn in QUARTERS if comes_before(turn, low)]
    between = [turn for turn in behind + ahead if turn != high and is_within(arc, turn)]
    return (low,) + tuple(between) + (high,)


def way_between(low, high):
    """The vectors of two turns, of about the same length, the second one counter-clockwise.

    Halves of the way are halves of the angle then, more or less.
    """
    left, right = vector_of(low), vector_of(high)
    if crossing(left, right) < 0:
        right = -right[0], -right[1]
    gap = bits_of(left) - bits_of(right)
    if gap > 0:
        return left, (right[0] << gap, right[1] << gap)
    return (left[0] << -gap, left[1] << -gap), right


def bits_of(vector):
    """The number of bits of the longer part of a vector."""
    return max(abs(vector[0]), abs(vector[1])).bit_length()


def crossing(left, right):
    """Above 0 if the way from left to right, up to half of all vectors, is counter-clockwise."""
    return right[0] * left[1] - right[1] * left[0]
