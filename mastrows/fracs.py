"""Whole numbers and fractions: pairs (n, m) without a common divisor, m above 0."""

from math import gcd

from mastrows.errors import InvalidAmount, InvalidContent, InvalidFraction, InvalidNumber


def is_whole(value):
    """Whether a value is a whole number: True and False are none."""
    return isinstance(value, int) and not isinstance(value, bool)


def is_fraction(value):
    """Whether a value, whatever it is, is a fraction."""
    if not isinstance(value, tuple) or len(value) != 2:
        return False
    top, bottom = value
    return is_whole(top) and is_whole(bottom) and bottom > 0 and gcd(top, bottom) == 1


def check_fraction(given):
    """Refuse what is no fraction."""
    if not is_fraction(given):
        raise InvalidFraction(given)


def is_content(value):
    """Whether a value, whatever it is, is a fraction from 0 on."""
    return is_fraction(value) and value[0] >= 0


def check_content(given):
    """Refuse what is no fraction from 0 on."""
    if not is_content(given):
        raise InvalidContent(given)


def is_amount(value):
    """Whether a value, whatever it is, is a fraction above 0."""
    return is_fraction(value) and value[0] > 0


def check_amount(given):
    """Refuse what is no fraction above 0."""
    if not is_amount(given):
        raise InvalidAmount(given)


def check_whole(given, low, high):
    """Refuse what is no whole number from low up to high."""
    if not is_whole(given) or not low <= given <= high:
        raise InvalidNumber(given)


def reduced(top, bottom):
    """The fraction top / bottom; bottom may be below 0, but is not 0."""
    common = gcd(top, bottom)
    if bottom < 0:
        common = -common
    return top // common, bottom // common


def fraction_sum(first, second):
    """The sum of two fractions."""
    # Divisors are taken out where the numbers are still short: both are reduced.
    common = gcd(first[1], second[1])
    top = first[0] * (second[1] // common) + second[0] * (first[1] // common)
    rest = gcd(top, common)
    return top // rest, first[1] // common * (second[1] // rest)


def fraction_product(first, second):
    """The product of two fractions."""
    one, two = gcd(first[0], second[1]), gcd(second[0], first[1])
    return first[0] // one * (second[0] // two), first[1] // two * (second[1] // one)


def fraction_quotient(first, second):
    """The first fraction divided by the second one, which is above 0."""
    return fraction_product(first, (second[1], second[0]))


def fraction_less(first, second):
    """The first fraction less the second one."""
    return fraction_sum(first, fraction_back(second))


def fraction_back(fraction):
    """The fraction with the other sign."""
    return -fraction[0], fraction[1]
