"""A second, slow way to what the program tells: from the definitions, with Sturm's chains.

Nothing is imported from the program. Turns, arcs, lags and complex numbers are
the values that DOC.md tells; inside, fractions are those of Python.
"""

from fractions import Fraction


def fraction(pair):
    return Fraction(pair[0], pair[1])


def pair(value):
    value = Fraction(value)
    return value.numerator, value.denominator


def times(first, second):
    return first[0] * second[0] - first[1] * second[1], first[0] * second[1] + first[1] * second[0]


def point(turn):
    if turn == "half":
        return Fraction(-1), Fraction(0)
    t = fraction(turn)
    return (1 - t * t) / (1 + t * t), 2 * t / (1 + t * t)


def value(lags, turn):
    """The sum of c_j * z^j over all j from -n to n."""
    z = point(turn)
    total, power = [Fraction(0), Fraction(0)], (Fraction(1), Fraction(0))
    for j, number in enumerate(lags):
        c = fraction(number[0]), fraction(number[1])
        for one, other in [(c, power)] if j == 0 else [(c, power), ((c[0], -c[1]), (power[0], -power[1]))]:
            part = times(one, other)
            total[0] += part[0]
            total[1] += part[1]
        power = times(power, z)
    assert total[1] == 0
    return total[0]


def interpolated(spots):
    """The polynomial through the spots (t, value), the number before t^0 first."""
    out = [Fraction(0)] * len(spots)
    for k, (t, worth) in enumerate(spots):
        basis, below = [Fraction(1)], Fraction(1)
        for j, (u, _) in enumerate(spots):
            if j != k:
                basis = [a - u * b for a, b in zip([Fraction(0)] + basis, basis + [Fraction(0)])]
                below *= t - u
        for j, number in enumerate(basis):
            out[j] += number * worth / below
    return stripped(out)


def stripped(poly):
    poly = list(poly)
    while poly and poly[-1] == 0:
        poly.pop()
    return poly


def polynomial(lags):
    """The pattern times (1 + t t)^n."""
    n = len(lags) - 1
    return interpolated([(Fraction(t), value(lags, (t, 1)) * (1 + t * t) ** n) for t in range(2 * n + 1)])


def at(poly, t):
    total = Fraction(0)
    for number in reversed(poly):
        total = total * t + number
    return total


def less_multiple(poly, divisor):
    rest = list(poly)
    while len(rest) >= len(divisor):
        factor = rest[-1] / divisor[-1]
        gap = len(rest) - len(divisor)
        rest = [a - factor * (divisor[k - gap] if k >= gap else 0) for k, a in enumerate(rest)][:-1]
    return stripped(rest)


def simple(poly):
    """The polynomial with each of its zeros once: divided by the last of its chain."""
    divisor, rest, out = chain(poly)[-1], list(poly), []
    while len(rest) >= len(divisor):
        factor = rest[-1] / divisor[-1]
        gap = len(rest) - len(divisor)
        rest = [a - factor * (divisor[k - gap] if k >= gap else 0) for k, a in enumerate(rest)][:-1]
        out.insert(0, factor)
    return out


def chain(poly):
    out = [poly, stripped([k * a for k, a in enumerate(poly)][1:])]
    while out[-1]:
        out.append([-a for a in less_multiple(out[-2], out[-1])])
    return out[:-1]


def changes(chain_of_poly, t):
    if t is None:
        signs = [p[-1] for p in chain_of_poly]
    else:
        signs = [at(p, t) for p in chain_of_poly]
    signs = [s > 0 for s in signs if s != 0]
    return sum(a != b for a, b in zip(signs, signs[1:]))


def bound(poly):
    return 2 + sum(abs(a / poly[-1]) for a in poly)


def roots(poly):
    """Pairs (a, b) with just one root between, ascending, or (a, a) for a root a.

    No root comes twice. The pairs are apart from one another but for their ends, which
    are roots in the pairs (a, a) only.
    """
    if len(poly) < 2:
        return []
    sturm, out = chain(poly), []
    waiting = [(-bound(poly), bound(poly))]
    while waiting:
        low, high = waiting.pop()
        many = changes(sturm, low) - changes(sturm, high)
        middle = (low + high) / 2
        if many == 1 and at(poly, high) != 0 and at(poly, low) != 0:
            out.append((low, high))
        elif many == 1 and at(poly, high) == 0:
            out.append((high, high))
        elif many > 0:
            waiting.extend([(middle, high), (low, middle)])
    return out


def apart(poly, spot, t):
    """The pair of a root, made so narrow that t is not within; (t, t) if t is the root."""
    low, high = spot
    if low == high:
        return spot
    sturm = chain(poly)
    if at(poly, t) == 0 and low < t <= high:
        return t, t
    while low <= t <= high:
        middle = (low + high) / 2
        if at(poly, middle) == 0:
            return middle, middle
        if changes(sturm, low) - changes(sturm, middle) == 1:
            high = middle
        else:
            low = middle
    return low, high


def sign(number):
    return (number > 0) - (number < 0)


def line_signs(poly, low, high):
    """The signs from low up to high, both counted; None stands for no end and is not counted."""
    spots = roots(simple(poly))
    for end in (low, high):
        if end is not None:
            spots = [apart(simple(poly), spot, end) for spot in spots]
    inside = [s for s in spots if (low is None or s[1] >= low) and (high is None or s[0] <= high)]
    limit = bound(poly) + 1
    ends = [-limit if low is None else low] + [limit if high is None else high]
    row = [sign(at(poly, ends[0]))]
    edges = [ends[0]] + [e for spot in inside for e in spot] + [ends[1]]
    for k in range(0, len(edges), 2):
        row.append(between(poly, edges[k], edges[k + 1]))
        if k + 2 < len(edges):
            row.append(0)
    row.append(sign(at(poly, ends[1])))
    return row


def between(poly, low, high):
    """The sign from low to high, of which no root is between them."""
    return sign(at(poly, (low + high) / 2))


def merged(row):
    return tuple(s for k, s in enumerate(row) if k == 0 or s != row[k - 1])


def sign_row(lags, arc):
    poly = polynomial(lags)
    if not poly:
        return (0,)
    half = sign(value(lags, "half"))
    if arc == "all":
        return merged([half] + line_signs(poly, None, None))
    low, high = [None if end == "half" else fraction(end) for end in arc]
    if low is not None and high is not None and low < high:
        return merged(line_signs(poly, low, high))
    row = [] if low is None else line_signs(poly, low, None)
    row = row + [half]
    return merged(row if high is None else row + line_signs(poly, None, high))


def shifted(lags, worth):
    return ((pair(fraction(lags[0][0]) + worth), (0, 1)),) + lags[1:]


def floor_by_halves(holds):
    """The greatest whole number that holds, all below holding and none above."""
    low, high = -1, 1
    while not holds(low):
        low *= 2
    while holds(high):
        high *= 2
    while high - low > 1:
        middle = (low + high) // 2
        if holds(middle):
            low = middle
        else:
            high = middle
    return low


def greatest_floor(lags, arc, parts):
    return floor_by_halves(lambda k: max(sign_row(shifted(lags, -Fraction(k, parts)), arc)) >= 0)


def least_floor(lags, arc, parts):
    return floor_by_halves(lambda k: min(sign_row(shifted(lags, -Fraction(k, parts)), arc)) >= 0)


def convolved(first, second):
    """The lags of the product of two patterns."""
    def both_sides(lags):
        plain = [(fraction(a), fraction(b)) for a, b in lags]
        return [(a, -b) for a, b in plain[:0:-1]] + plain
    one, two = both_sides(first), both_sides(second)
    out = [(Fraction(0), Fraction(0))] * (len(one) + len(two) - 1)
    for k, a in enumerate(one):
        for j, b in enumerate(two):
            part = times(a, b)
            out[k + j] = out[k + j][0] + part[0], out[k + j][1] + part[1]
    return tuple((pair(a), pair(b)) for a, b in out[len(first) + len(second) - 2:])


def quadratic(a, b, c):
    """Lags with the pattern (a + b t + c t t) / (1 + t t)."""
    real = Fraction(a - c, 4)
    return ((pair(Fraction(a + c, 2)), (0, 1)), (pair(real), pair(-Fraction(b, 4))))


def number(complex_number):
    return fraction(complex_number[0]), fraction(complex_number[1])


def told(plain):
    return pair(plain[0]), pair(plain[1])


def sent(row, turn):
    """The sum of a_k * z^k, a pair of Python's fractions."""
    z, power, total = point(turn), (Fraction(1), Fraction(0)), (Fraction(0), Fraction(0))
    for feed in row:
        part = times(number(feed), power)
        total = total[0] + part[0], total[1] + part[1]
        power = times(power, z)
    return total


def power(row, turn):
    real, side = sent(row, turn)
    return real * real + side * side


def lags(row):
    """c_j is the sum of a_(k + j) * conj(a_k)."""
    plain, out = [number(feed) for feed in row], []
    for j in range(len(row)):
        parts = [times(plain[k + j], (plain[k][0], -plain[k][1])) for k in range(len(row) - j)]
        out.append((pair(sum(a for a, _ in parts)), pair(sum(b for _, b in parts))))
    return tuple(out)


def product(*rows):
    """The product of rows as polynomials, as long as it comes."""
    out = [(Fraction(1), Fraction(0))]
    for row in rows:
        more = [(Fraction(0), Fraction(0))] * (len(out) + len(row) - 1)
        for k, a in enumerate(out):
            for j, feed in enumerate(row):
                part = times(a, number(feed))
                more[k + j] = more[k + j][0] + part[0], more[k + j][1] + part[1]
        out = more
    return tuple(told(feed) for feed in out)


def mirror(row):
    return tuple((real, (-side[0], side[1])) for real, side in row[::-1])


def summed(first, second, factor=1):
    """The lags of the first pattern and the second one times a factor."""
    size = max(len(first), len(second))
    one, two = [list(row) + [((0, 1), (0, 1))] * (size - len(row)) for row in (first, second)]
    return tuple((pair(fraction(a[0]) + factor * fraction(b[0])), pair(fraction(a[1]) + factor * fraction(b[1])))
                 for a, b in zip(one, two))


def slope(lags):
    """Each lag times i and its index."""
    return tuple((pair(-k * fraction(side)), pair(k * fraction(real))) for k, (real, side) in enumerate(lags))


def line(lags):
    """The lags without noughts at the end."""
    lags = list(lags)
    while lags and lags[-1] == ((0, 1), (0, 1)):
        lags.pop()
    return tuple(lags)


def lag(lags, j):
    """c_j, for j below 0 the conjugate of c_(-j)."""
    real, side = number(lags[abs(j)])
    return real, side if j >= 0 else -side


def table_rank(lags):
    """The rank of the table of the lags, None if some row hears less than 0: each step takes out a mast
    that hears something by itself. Where none is left that does, all that is left must be nought.
    """
    rest = [[lag(lags, k - j) for k in range(len(lags))] for j in range(len(lags))]
    rank = 0
    while rest:
        alone = [line[j][0] for j, line in enumerate(rest)]
        if min(alone) < 0:
            return None
        if max(alone) == 0:
            return rank if all(entry == (0, 0) for line in rest for entry in line) else None
        at, rank = alone.index(max(alone)), rank + 1
        used, rows = rest[at], []
        for j, line in enumerate(rest):
            if j != at:
                factor = line[at][0] / alone[at], line[at][1] / alone[at]
                parts = [times(factor, other) for other in used]
                rows.append([(a - c, b - d) for k, ((a, b), (c, d)) in enumerate(zip(line, parts)) if k != at])
        rest = rows
    return rank


def heard(lags, row):
    """The sum of x_j * conj(x_k) * c_(j - k)."""
    plain, total = [number(feed) for feed in row], (Fraction(0), Fraction(0))
    for j, one in enumerate(plain):
        for k, other in enumerate(plain):
            part = times(times(one, (other[0], -other[1])), lag(lags, j - k))
            total = total[0] + part[0], total[1] + part[1]
    assert total[1] == 0
    return total[0]


def wave(worth, turn, many):
    """The lags of a wave: its power times the powers of the turn's point."""
    z, out = point(turn), [(Fraction(worth), Fraction(0))]
    for _ in range(many - 1):
        out.append(times(out[-1], z))
    return tuple(told(plain) for plain in out)


def waves(lot, many):
    """The lags of a lot of waves, pairs of a power and a turn."""
    total = (((0, 1), (0, 1)),) * many
    for worth, turn in lot:
        total = summed(total, wave(worth, turn, many))
    return total


def determinant(lines):
    """The determinant of a table of complex numbers, pairs of Python's fractions."""
    rest, total = [list(line) for line in lines], (Fraction(1), Fraction(0))
    while rest:
        found = [k for k, line in enumerate(rest) if line[0] != (0, 0)]
        if not found:
            return Fraction(0), Fraction(0)
        used = rest.pop(found[0])
        pivot = used[0] if found[0] % 2 == 0 else (-used[0][0], -used[0][1])
        total = times(total, pivot)
        size = used[0][0] ** 2 + used[0][1] ** 2
        rows = []
        for line in rest:
            factor = times(line[0], (used[0][0] / size, -used[0][1] / size))
            parts = [times(factor, other) for other in used]
            rows.append([(a - c, b - d) for (a, b), (c, d) in zip(line[1:], parts[1:])])
        rest = rows
    return total


def table(lags):
    return [[lag(lags, k - j) for k in range(len(lags))] for j in range(len(lags))]


def stays_inside(row):
    """Whether all zeros of the row are inside the circle: at each step (Schur, Cohn) the first feed is smaller
    than the last one, and the row less a multiple of its mirror is one mast shorter.
    """
    plain = [number(feed) for feed in row]
    while plain and plain[-1] == (0, 0):
        plain.pop()
    while len(plain) > 1:
        first, last = plain[0], plain[-1]
        if first[0] ** 2 + first[1] ** 2 >= last[0] ** 2 + last[1] ** 2:
            return False
        # conj(last) * P - first * mirror(P) is 0 at its beginning
        mirrored = [(a, -b) for a, b in plain[::-1]]
        kept = [times((last[0], -last[1]), feed) for feed in plain]
        taken = [times(first, feed) for feed in mirrored]
        plain = [(a - c, b - d) for (a, b), (c, d) in zip(kept, taken)][1:]
    return True
