"""Endless rows: each number is told by those before it, and by those behind it."""

from math import gcd

from bandsplits.polynomials import over_content, product_at, product_of, without_top
from bandsplits.ratios import ZERO, is_fraction, over_one_bottom, plus, reduced


def is_endless_row(value):
    """Whether a value, whatever it is, is an endless row."""
    if not isinstance(value, tuple) or len(value) != 2:
        return False
    rule, values = value
    if not is_tuple_of_fractions(rule) or not is_tuple_of_fractions(values):
        return False
    if len(values) == 0 or len(rule) != len(values) + 1:
        return False
    return rule[0] != ZERO and rule[-1] != ZERO


def is_tuple_of_fractions(value):
    """Whether a value, whatever it is, is a tuple of fractions."""
    return isinstance(value, tuple) and all(is_fraction(number) for number in value)


def number_from(endless, weights, place):
    """The sum of the endless row's numbers from the place on, each times its weight, a whole number."""
    rule, values = endless
    below = max(0, -place)
    # What lies below place 0 is told by the row turned round, in which its places are above.
    behind = weights[:below][::-1]
    first = len(values) - place - len(behind)
    return plus(
        number_onward(rule, values, weights[below:], max(0, place)),
        number_onward(rule[::-1], values[::-1], behind, first),
    )


def number_onward(rule, values, weights, place):
    """As number_from, for a place not below 0."""
    if not any(weights):
        return ZERO
    numbers, bottom = over_one_bottom(values)
    divisor = over_content(over_one_bottom(rule)[0])
    # The numbers from place 0 on, weighed, are those of a series: of one polynomial over the rule.
    first = product_of(divisor, numbers)[:len(numbers)]
    last = place + len(weights) - 1
    found, power = series_number(product_of(first, weights[::-1]), divisor, last)
    # So many of the powers of the rule's first number are needed at most, and the others divide what was found.
    needed = min(power, max(0, last - len(numbers) + 1))
    found = found // power_of(divisor[0], power - needed)
    return over_power(reduced(found, bottom), divisor[0], needed)


def series_number(numbers, divisor, place):
    """The number at the place of a series, the quotient of two polynomials.

    It is told as a pair: that number times a power of the divisor's first number, and the exponent.
    """
    above, below = numbers, divisor
    rest, power = place, 1
    while rest > 0:
        above, below = above[:rest + 1], below[:rest + 1]
        if any(below[1::2]):
            # The divisor times itself alternated has even powers alone (Bostan, Mori).
            turned = [number if at % 2 == 0 else -number for at, number in enumerate(below)]
            above = every_second_of_product(above, turned, rest % 2, rest + 1)
            below = every_second_of_product(below, turned, 0, rest + 1)
            power = 2 * power
        else:
            above, below = above[rest % 2::2], below[::2]
        # Of even powers alone, half of all places is left.
        above, below = without_top(above), without_top(below)
        rest = rest // 2
    return (above[0] if above else 0, power)


def every_second_of_product(numbers, others, first, end):
    """Every second number, from the first place on and before the end, of the product of two polynomials."""
    return [product_at(numbers, others, at) for at in range(first, min(end, len(numbers) + len(others) - 1), 2)]


def power_of(number, many):
    """The number to the power of so many."""
    out = 1
    for at in reversed(range(many.bit_length())):
        out = out * out
        if many >> at & 1:
            out = out * number
    return out


def over_power(number, base, many):
    """The fraction divided by so many of the base, a whole number other than 0."""
    top, bottom = number
    if top == 0:
        return ZERO
    power = power_of(base, many)
    # The power may be a long number, and nearly all of what it has in common with others is short.
    common = gcd(part_within(top, base), power)
    if power < 0:
        common = -common
    return (top // common, bottom * (power // common))


def part_within(number, base):
    """The greatest divisor of a number other than 0 that has no prime factor but the base's."""
    out, rest = 1, number
    common = gcd(rest, base)
    while common > 1:
        out, rest = out * common, rest // common
        common = gcd(rest, base)
    return out
