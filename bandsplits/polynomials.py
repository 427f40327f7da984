"""Polynomials with whole numbers: lists of these, that of the lowest power first.

The nought polynomial is the empty list; all others end with a number other than 0.
"""

from math import gcd

# Where two polynomials have no common factor, they nearly always have none modulo this prime.
PRIME = 2305843009213693951


def product_of(numbers, others):
    """The product of two polynomials."""
    if not numbers or not others:
        return []
    # Rows may have long gaps, so noughts are passed over.
    filled = [(place, other) for place, other in enumerate(others) if other != 0]
    out = [0] * (len(numbers) + len(others) - 1)
    for at, number in enumerate(numbers):
        if number != 0:
            for place, other in filled:
                out[at + place] += number * other
    return out


def span_without(numbers, nought):
    """The pair of the first place and the end that are left when noughts are taken off both ends."""
    first, end = 0, len(numbers)
    while end > 0 and numbers[end - 1] == nought:
        end -= 1
    while first < end and numbers[first] == nought:
        first += 1
    return (first, end)


def without_ends(numbers):
    """The list without the noughts at both of its ends."""
    first, end = span_without(numbers, 0)
    return numbers[first:end]


def content_of(numbers):
    """The greatest whole number that divides all the numbers; 0 for the nought polynomial."""
    common = 0
    for number in numbers:
        common = gcd(common, number)
    return common


def over_content(numbers):
    """The polynomial divided by the greatest whole number that divides all of its numbers."""
    common = content_of(numbers)
    return [number // common for number in numbers]


def whole_quotient(numbers, divisor):
    """The polynomial of whole numbers whose product with the divisor is the first; None if there is none."""
    rest = list(numbers)
    filled = [(place, number) for place, number in enumerate(divisor) if number != 0]
    many = max(0, len(numbers) - len(divisor) + 1)
    out = [0] * many
    for at in reversed(range(many)):
        factor, left = divmod(rest[at + len(divisor) - 1], divisor[-1])
        if left != 0:
            return None
        out[at] = factor
        if factor != 0:
            for place, number in filled:
                rest[at + place] -= factor * number
    if any(rest):
        return None
    return out


def rest_of(numbers, divisor):
    """What division leaves, times some number other than 0 and without its noughts at both ends."""
    rest = list(numbers)
    while len(rest) >= len(divisor):
        # Both are multiplied up rather than divided, so that the numbers stay whole.
        common = gcd(rest[-1], divisor[-1])
        up, down = divisor[-1] // common, rest[-1] // common
        rest = without_ends(less_at_top(rest, up, divisor, down))
    return rest


def less_at_top(numbers, up, divisor, down):
    """up times the numbers, less down times the divisor, the last places of both being the same."""
    out = [up * number for number in numbers]
    ahead = len(numbers) - len(divisor)
    for place, number in enumerate(divisor):
        out[ahead + place] -= down * number
    return out


def have_no_common_factor_by_prime(numbers, others):
    """True if it can be seen modulo PRIME that no polynomial but numbers divides both."""
    # A common factor keeps both of its ends modulo PRIME if one of both polynomials does.
    if numbers[0] % PRIME == 0 or numbers[-1] % PRIME == 0:
        return False
    first, second = modulo_prime(numbers), modulo_prime(others)
    while second:
        first, second = second, rest_modulo_prime(first, second)
    return len(first) == 1


def modulo_prime(numbers):
    """The rests of the numbers, without noughts at both ends."""
    return without_ends([number % PRIME for number in numbers])


def rest_modulo_prime(numbers, divisor):
    """As rest_of, modulo PRIME."""
    rest = numbers
    while len(rest) >= len(divisor):
        rest = modulo_prime(less_at_top(rest, divisor[-1], divisor, rest[-1]))
    return rest


def greatest_common(numbers, others):
    """The greatest polynomial that divides both, up to a number; of both the first number is not 0."""
    if numbers and others and have_no_common_factor_by_prime(numbers, others):
        return [1]
    first, second = numbers, others
    while second:
        first, second = second, over_content(rest_of(first, second))
    return first
