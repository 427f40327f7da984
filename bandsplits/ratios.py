"""Whole numbers, and fractions: pairs (n, m) of them, reduced, m above 0."""

from math import gcd, lcm

from bandsplits.errors import InvalidNumber

ZERO = (0, 1)


def is_whole(value):
    """Whether a value, whatever it is, is a whole number."""
    # For Python True and False are integers, too; here they are none.
    return isinstance(value, int) and not isinstance(value, bool)


def need_whole(value):
    """Raise InvalidNumber for what is no whole number."""
    if not is_whole(value):
        raise InvalidNumber(value)


def need_whole_between(value, least, greatest):
    """Raise InvalidNumber for what is no whole number from the least to the greatest one."""
    if not is_whole(value) or not least <= value <= greatest:
        raise InvalidNumber(value)


def is_fraction(value):
    """Whether a value, whatever it is, is a fraction."""
    if not isinstance(value, tuple) or len(value) != 2:
        return False
    top, bottom = value
    if not is_whole(top) or not is_whole(bottom):
        return False
    return bottom > 0 and gcd(top, bottom) == 1


def reduced(top, bottom):
    """The fraction top / bottom; the bottom is not 0, but may be below it."""
    common = gcd(top, bottom)
    if bottom < 0:
        common = -common
    return (top // common, bottom // common)


def plus(number, other):
    """The sum of two fractions."""
    return reduced(number[0] * other[1] + other[0] * number[1], number[1] * other[1])


def minus(number):
    """The opposite of a fraction."""
    return (-number[0], number[1])


def over_one_bottom(numbers):
    """The pair of a list of whole numbers and one number above 0 by which they are to be divided."""
    bottom = 1
    for number in numbers:
        bottom = lcm(bottom, number[1])
    return ([number[0] * (bottom // number[1]) for number in numbers], bottom)
