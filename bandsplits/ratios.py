"""Whole numbers, and fractions: pairs (n, m) of them, reduced, m above 0."""

from math import gcd, lcm

from bandsplits.errors import HighBelowLow, InvalidFraction, InvalidNumber

ZERO = (0, 1)
ONE = (1, 1)


def is_whole(value):
    """Whether a value, whatever it is, is a whole number."""
    # For Python True and False are integers, too; here they are none.
    return isinstance(value, int) and not isinstance(value, bool)


def need_whole(value):
    """Raise InvalidNumber for what is no whole number."""
    if not is_whole(value):
        raise InvalidNumber(value)


def need_whole_between(value, least, greatest):
    """Raise InvalidNumber for what is no whole number from the least to the greatest one."""
    if not is_whole(value) or not least <= value <= greatest:
        raise InvalidNumber(value)


def need_many(many):
    """Raise InvalidNumber for what is no whole number from 1 to 10 ** 12."""
    need_whole_between(many, 1, 10 ** 12)


def is_fraction(value):
    """Whether a value, whatever it is, is a fraction."""
    if not isinstance(value, tuple) or len(value) != 2:
        return False
    top, bottom = value
    if not is_whole(top) or not is_whole(bottom):
        return False
    return bottom > 0 and gcd(top, bottom) == 1


def need_fraction(value):
    """Raise InvalidFraction for what is no fraction."""
    if not is_fraction(value):
        raise InvalidFraction(value)


def need_ends(low, high):
    """Raise InvalidFraction for what is no fraction, then HighBelowLow for ends in the wrong order."""
    need_fraction(low)
    need_fraction(high)
    if is_below(high, low):
        raise HighBelowLow(high)


def is_range(low, high):
    """Whether two values, whatever they are, are fractions, the low end not above the high one."""
    return is_fraction(low) and is_fraction(high) and not is_below(high, low)


def reduced(top, bottom):
    """The fraction top / bottom; the bottom is not 0, but may be below it."""
    common = gcd(top, bottom)
    if bottom < 0:
        common = -common
    return (top // common, bottom // common)


def plus(number, other):
    """The sum of two fractions."""
    # Long numbers would take their time, and 0 is the one that is added most.
    if number[0] == 0:
        return other
    if other[0] == 0:
        return number
    return reduced(number[0] * other[1] + other[0] * number[1], number[1] * other[1])


def minus(number):
    """The opposite of a fraction."""
    return (-number[0], number[1])


def times(number, other):
    """The product of two fractions."""
    return reduced(number[0] * other[0], number[1] * other[1])


def over(number, other):
    """The first fraction divided by the other one, which is not 0."""
    return reduced(number[0] * other[1], number[1] * other[0])


def over_whole(number, whole):
    """The fraction divided by a whole number above 0."""
    common = gcd(number[0], whole)
    return (number[0] // common, number[1] * (whole // common))


def is_below(number, other):
    """Whether the first fraction is below the other one."""
    return number[0] * other[1] < other[0] * number[1]


def over_one_bottom(numbers):
    """The pair of a list of whole numbers and one number above 0 by which they are to be divided."""
    bottom = 1
    for number in numbers:
        bottom = lcm(bottom, number[1])
    return ([number[0] * (bottom // number[1]) for number in numbers], bottom)
