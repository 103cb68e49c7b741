"""Complex numbers: pairs (RE, IM) of fractions."""

from mastrows.errors import InvalidComplex
from mastrows.fracs import fraction_back, fraction_product, fraction_quotient, fraction_sum, is_fraction

NOUGHT = ((0, 1), (0, 1))


def is_complex(value):
    """Whether a value, whatever it is, is a complex number."""
    if not isinstance(value, tuple) or len(value) != 2:
        return False
    return is_fraction(value[0]) and is_fraction(value[1])


def check_complex(given):
    """Refuse what is no complex number."""
    if not is_complex(given):
        raise InvalidComplex(given)


def complex_sum(number, other):
    """The sum of two complex numbers."""
    check_complex(number)
    check_complex(other)
    return added(number, other)


def complex_product(number, other):
    """The product of two complex numbers."""
    check_complex(number)
    check_complex(other)
    return multiplied(number, other)


def conjugate(number):
    """RE - IM i."""
    check_complex(number)
    return mirrored_number(number)


def size_square(number):
    """RE * RE + IM * IM, a fraction."""
    check_complex(number)
    return square_of_size(number)


def added(first, second):
    """The sum of two complex numbers that are known to be some."""
    return fraction_sum(first[0], second[0]), fraction_sum(first[1], second[1])


def multiplied(first, second):
    """The product of two complex numbers that are known to be some."""
    real = fraction_sum(fraction_product(first[0], second[0]),
                        fraction_back(fraction_product(first[1], second[1])))
    imaginary = fraction_sum(fraction_product(first[0], second[1]),
                             fraction_product(first[1], second[0]))
    return real, imaginary


def mirrored_number(number):
    """The conjugate of a complex number that is known to be one."""
    return number[0], fraction_back(number[1])


def square_of_size(number):
    """The size square of a complex number that is known to be one."""
    real, imaginary = number
    return fraction_sum(fraction_product(real, real), fraction_product(imaginary, imaginary))


def quotient_of(first, second):
    """The first complex number divided by the second one, which is not 0."""
    size = square_of_size(second)
    real, imaginary = multiplied(first, mirrored_number(second))
    return fraction_quotient(real, size), fraction_quotient(imaginary, size)


def stretched(number, fraction):
    """A complex number times a fraction."""
    return fraction_product(number[0], fraction), fraction_product(number[1], fraction)
