"""Forms and the zeros that they have between two vectors.

A form is a list of whole numbers: the one at index k stands before
x^k * y^(n - k), n + 1 being how many there are. So a form is a polynomial in
the turn x / y that has a value at half, too: at the vector (1, 0).
"""

from math import isqrt

from mastrows.polys import poly_product, poly_scaled, poly_sum, square_free, without_top_noughts
from mastrows.turns import crossing


def form_at(form, vector):
    """The value of a form at a vector."""
    across, along = vector
    total, power = 0, 1
    for number in reversed(form):
        total = total * across + number * power
        power = power * along
    return total


def sign_at(form, vector):
    """The sign of a form at a vector: 1, 0 or -1."""
    return sign_of(form_at(form, vector))


def sign_of(number):
    """The sign of a whole number."""
    if number == 0:
        return 0
    return 1 if number > 0 else -1


def core_of(form):
    """A form with the same zeros, half among them, each of them once; the form is not nought."""
    poly = without_top_noughts(form)
    core = square_free(poly)
    return core if len(poly) == len(form) else core + [0]


def form_between(form, left, right):
    """The numbers before p^(n - k) * q^k of the form at p * left + q * right."""
    across, along = [left[0], right[0]], [left[1], right[1]]
    total, power = [], [1]
    for number in reversed(form):
        total = poly_sum(poly_product(total, across), poly_scaled(power, number))
        power = poly_product(power, along)
    return total


def middle_of(left, right):
    """A vector between two vectors."""
    return left[0] + right[0], left[1] + right[1]


def doubled(vector):
    """The vector at twice the size: in the same direction.

    It goes with a middle. Were the sizes of both ends unlike, halves would no
    longer be halves, and the guess by a straight line no guess at all.
    """
    return 2 * vector[0], 2 * vector[1]


def sign_changes(numbers):
    """How often the sign changes from one number to the next, noughts left out."""
    signs = [sign_of(number) for number in numbers if number != 0]
    return len([k for k in range(1, len(signs)) if signs[k] != signs[k - 1]])


def right_half(numbers):
    """The numbers of `form_between` with the middle in the place of left, and right doubled."""
    out, last = list(numbers), len(numbers) - 1
    for first in range(last):
        for k in reversed(range(first, last)):
            out[k] += out[k + 1]
    return [number << k for k, number in enumerate(out)]


def left_half(numbers):
    """The numbers of `form_between` with left doubled, and the middle in the place of right."""
    return right_half(numbers[::-1])[::-1]


def stretches(core, left, right):
    """The way from left to right as triples (LEFT, RIGHT, COUNT), one behind the other.

    COUNT is the number of zeros of the core between LEFT and RIGHT, both left
    out: 0, or 1, but then there is no zero at LEFT and at RIGHT. The core has
    no zero twice.
    """
    # Descartes: there are at most as many zeros as sign changes, and just one for one.
    # Without a zero that comes twice, halving ends (Vincent).
    found = []
    waiting = [(left, right, form_between(core, left, right), 1)]
    while waiting:
        left, right, numbers, pieces = waiting.pop()
        changes = sign_changes(numbers)
        if changes == 0 or (changes == 1 and numbers[0] != 0 and numbers[-1] != 0):
            found.append((left, right, changes))
        else:
            parts = cut_about(core, left, right, numbers, pieces) or halves_of(left, right, numbers, pieces)
            waiting.extend(parts[::-1])
    return found


def halves_of(left, right, numbers, pieces):
    """Both halves of a way, with their numbers and the pieces in which to guess then."""
    middle, changes = middle_of(left, right), sign_changes(numbers)
    halves = [(doubled(left), middle, left_half(numbers)), (middle, doubled(right), right_half(numbers))]
    # A half with all changes may be the first of very many: the zeros are close to one another.
    fewer = max(4, isqrt(pieces))
    return [(low, high, half, fewer if sign_changes(half) == changes else 1) for low, high, half in halves]


def cut_about(core, left, right, numbers, pieces):
    """The way cut about two of so many pieces that have all sign changes; None if these are not met.

    There are no fewer changes in a whole than in its parts, so none are left beside.
    """
    for place in guessed_places(numbers, pieces):
        places = [0, max(0, place - 1), min(pieces, place + 1), pieces]
        ends = [between(left, right, k, pieces) for k in places]
        inner = form_between(core, ends[1], ends[2])
        if sign_changes(inner) == sign_changes(numbers):
            parts = [(ends[1], ends[2], inner, pieces * pieces)]
            if places[0] < places[1]:
                parts.insert(0, (ends[0], ends[1], form_between(core, ends[0], ends[1]), 1))
            if places[2] < places[3]:
                parts.append((ends[2], ends[3], form_between(core, ends[2], ends[3]), 1))
            return parts
    return None


def guessed_places(numbers, pieces):
    """Where, in pieces, all zeros would be if they were one: guessed from the left and from the right."""
    if pieces == 1:
        return []
    places = [newton_step(numbers, pieces), pieces - newton_step(numbers[::-1], pieces)]
    return [place for k, place in enumerate(places) if 0 <= place <= pieces and place not in places[:k]]


def newton_step(numbers, pieces):
    """So many pieces from the left end a zero is that comes once for each sign change; -1 for none."""
    changes, degree = sign_changes(numbers), len(numbers) - 1
    slope = degree * numbers[0] - numbers[1]
    if slope == 0:
        return -1
    return (2 * pieces * changes * numbers[0] + slope) // (2 * slope)


def narrowed(core, left, right, steep):
    """A pair (LEFT, RIGHT) about the one zero between two vectors, so near to one another
    that steep times the angle from vector to vector is at most 1.

    The core has unlike signs at the given ones. If the zero is met, both are it.
    """
    pieces = 4
    while not is_narrow(left, right, steep):
        near, far = guessed_piece(core, left, right, pieces)
        if has_zero_between(core, near, far):
            left, right, pieces = near, far, pieces * pieces
        else:
            left, right = better_half(core, left, right)
            pieces = max(4, isqrt(pieces))
    return left, right


def is_narrow(left, right, steep):
    """Whether steep times the angle between two vectors is surely at most 1."""
    # The tangent of an angle below a quarter turn is at least the angle.
    along = left[0] * right[0] + left[1] * right[1]
    return steep * crossing(left, right) <= along


def guessed_piece(core, left, right, pieces):
    """Of so many pieces of the way the ends of that in which the zero of a straight line is."""
    ahead, behind = abs(form_at(core, left)), abs(form_at(core, right))
    k = pieces * ahead // (ahead + behind)
    return between(left, right, k, pieces), between(left, right, k + 1, pieces)


def between(left, right, k, pieces):
    """The vector at the end of k of so many pieces of the way from left to right."""
    across = left[0] * (pieces - k) + right[0] * k
    along = left[1] * (pieces - k) + right[1] * k
    return across, along


def has_zero_between(core, left, right):
    """Whether the core has unlike signs at two vectors, both of them not 0."""
    return sign_at(core, left) * sign_at(core, right) < 0


def better_half(core, left, right):
    """The half of the way, as a pair of vectors, that has the zero; twice the zero if it is met."""
    middle = middle_of(left, right)
    sign = sign_at(core, middle)
    if sign == 0:
        return middle, middle
    if sign == sign_at(core, left):
        return middle, doubled(right)
    return doubled(left), middle
