"""Polynomials with whole numbers: lists of these, that of the lowest power first.

The nought polynomial is the empty list; all others end with a number other than 0, if nothing else is said.
"""

from math import gcd

# Where two polynomials have no common factor, they nearly always have none modulo this prime.
PRIME = 2305843009213693951


def product_of(numbers, others):
    """The product of two polynomials."""
    if not numbers or not others:
        return []
    # Rows may have long gaps, so noughts are passed over.
    filled = [(place, other) for place, other in enumerate(others) if other != 0]
    out = [0] * (len(numbers) + len(others) - 1)
    for at, number in enumerate(numbers):
        if number != 0:
            for place, other in filled:
                out[at + place] += number * other
    return out


def product_at(numbers, others, place):
    """The number at the place of the product of two polynomials."""
    first = max(0, place - len(others) + 1)
    end = min(place + 1, len(numbers))
    return sum([numbers[at] * others[place - at] for at in range(first, end)])


def weighed_sum(weight, numbers, other_weight, others):
    """The sum of both polynomials, each times its weight."""
    out = [0] * max(len(numbers), len(others))
    for place, number in enumerate(numbers):
        out[place] += weight * number
    for place, number in enumerate(others):
        out[place] += other_weight * number
    return without_top(out)


def slope_of(numbers):
    """The derivative of a polynomial."""
    return [place * number for place, number in enumerate(numbers) if place > 0]


def value_of(numbers, place):
    """The polynomial's value at a whole number."""
    total = 0
    for number in reversed(numbers):
        total = total * place + number
    return total


def value_at_ratio(numbers, top, bottom):
    """The polynomial's value at top / bottom, times the bottom to the power of len(numbers) - 1."""
    total = 0
    power = 1
    for number in reversed(numbers):
        total = total * top + number * power
        power = power * bottom
    return total


def span_without(numbers, nought):
    """The pair of the first place and the end that are left when noughts are taken off both ends."""
    first, end = 0, len(numbers)
    while end > 0 and numbers[end - 1] == nought:
        end -= 1
    while first < end and numbers[first] == nought:
        first += 1
    return (first, end)


def without_top(numbers):
    """The list without the noughts at its end."""
    return numbers[:span_without(numbers, 0)[1]]


def content_of(numbers):
    """The greatest whole number that divides all the numbers; 0 for the nought polynomial."""
    common = 0
    for number in numbers:
        common = gcd(common, number)
    return common


def over_content(numbers):
    """The polynomial divided by the greatest whole number that divides all of its numbers."""
    common = content_of(numbers)
    return [number // common for number in numbers]


def whole_quotient(numbers, divisor):
    """The polynomial of whole numbers whose product with the divisor is the first; None if there is none."""
    rest = list(numbers)
    filled = [(place, number) for place, number in enumerate(divisor) if number != 0]
    many = max(0, len(numbers) - len(divisor) + 1)
    out = [0] * many
    for at in reversed(range(many)):
        factor, left = divmod(rest[at + len(divisor) - 1], divisor[-1])
        if left != 0:
            return None
        out[at] = factor
        if factor != 0:
            for place, number in filled:
                rest[at + place] -= factor * number
    if any(rest):
        return None
    return out


def division_of(numbers, divisor):
    """What division leaves, and the steps (place, up, down) that lead there, the first one first.

    Each step multiplies what was left by up, and takes away down times the divisor, moved to the place.
    The rest is shorter than the divisor, and may end with noughts.
    """
    rest = list(numbers)
    lead = divisor[-1]
    filled = [(place, number) for place, number in enumerate(divisor) if number != 0]
    steps = []
    for at in reversed(range(max(0, len(numbers) - len(divisor) + 1))):
        if rest[-1] != 0:
            # Both are multiplied up rather than divided, so that the numbers stay whole.
            common = gcd(rest[-1], lead)
            up, down = lead // common, rest[-1] // common
            if up != 1:
                rest = [up * number for number in rest]
            for place, number in filled:
                rest[at + place] -= down * number
            steps.append((at, up, down))
        rest.pop()
    return (rest, steps)


def multiplier_of(steps):
    """The number by which the steps of a division have multiplied."""
    out = 1
    for step in steps:
        out = out * step[1]
    return out


def quotient_of(steps):
    """The polynomial, times the multiplier of the steps, that a division's steps have taken the divisor by."""
    out = [0] * (1 + max([step[0] for step in steps], default=-1))
    power = 1
    for at, up, down in reversed(steps):
        out[at] = down * power
        power = power * up
    return out


def have_no_common_factor_by_prime(numbers, others):
    """True if it can be seen modulo PRIME that no polynomial but numbers divides both."""
    # A common factor keeps its length modulo PRIME if one of both polynomials does.
    if numbers[-1] % PRIME == 0:
        return False
    first, second = modulo_prime(numbers), modulo_prime(others)
    while second:
        first, second = second, rest_modulo_prime(first, second)
    return len(first) == 1


def modulo_prime(numbers):
    """The rests of the numbers, without noughts at the end."""
    return without_top([number % PRIME for number in numbers])


def rest_modulo_prime(numbers, divisor):
    """What division leaves modulo PRIME, times some number other than 0."""
    rest = numbers
    while len(rest) >= len(divisor):
        ahead = len(rest) - len(divisor)
        up, down = divisor[-1], rest[-1]
        out = [up * number for number in rest]
        for place, number in enumerate(divisor):
            out[ahead + place] -= down * number
        rest = modulo_prime(out)
    return rest


def greatest_common(numbers, others):
    """The greatest polynomial that divides both, up to a number; no number above 1 divides all of its numbers.

    Its last number is above 0, unless one of both is the nought polynomial.
    """
    if not numbers or not others:
        return over_content(numbers or others)
    if have_no_common_factor_by_prime(numbers, others):
        return [1]
    first, second = over_content(numbers), over_content(others)
    # Char, Geddes, Gonnet: with such a base, and greater ones, what divides both is the greatest.
    base = 2 * min(size_of(first), size_of(second)) + 29
    while True:
        found = over_content(digits_of(gcd(value_of(first, base), value_of(second, base)), base))
        if whole_quotient(first, found) is not None and whole_quotient(second, found) is not None:
            return found
        base = base * 3 + 1


def size_of(numbers):
    """The greatest of the numbers without their signs."""
    return max([abs(number) for number in numbers])


def digits_of(number, base):
    """The polynomial whose value at the base is the number, with numbers not beyond half the base."""
    rest = number
    out = []
    while rest != 0:
        digit = rest % base
        if 2 * digit > base:
            digit = digit - base
        out.append(digit)
        rest = (rest - digit) // base
    return out


def simple_part(numbers):
    """The product of all factors of a polynomial other than nought, each one once, up to a number."""
    return whole_quotient(over_content(numbers), greatest_common(numbers, slope_of(numbers)))


def odd_part_of_roots(numbers):
    """A polynomial that has the same sign wherever the first is not 0, and none of its factors twice."""
    rest = greatest_common(numbers, slope_of(numbers))
    if len(rest) == 1:
        return numbers
    left = whole_quotient(over_content(numbers), rest)
    out = [1]
    is_odd = True
    # In each turn what is left are the factors that are there at least so often (Musser); the first has the sign.
    while len(left) > 1:
        more = greatest_common(left, rest)
        if is_odd:
            out = product_of(out, whole_quotient(left, more))
        left, rest = more, whole_quotient(rest, more)
        is_odd = not is_odd
    return out


def cofactors_of(numbers, others):
    """The polynomials by which both, without a common factor, have to be multiplied for their sum to be a number."""
    # Each triple is a polynomial that comes of both, and what they are multiplied by for it.
    this, following = (numbers, [1], []), (others, [], [1])
    while following[0]:
        rest, steps = division_of(this[0], following[0])
        up, factor = multiplier_of(steps), quotient_of(steps)
        cofactors = [
            weighed_sum(up, this[at], -1, product_of(factor, following[at]))
            for at in (1, 2)
        ]
        this, following = following, together_over_content((without_top(rest), cofactors[0], cofactors[1]))
    return (this[1], this[2])


def together_over_content(several):
    """The polynomials divided by the greatest whole number that divides all numbers of all of them."""
    common = content_of([number for numbers in several for number in numbers])
    return tuple([[number // common for number in numbers] for numbers in several])


def has_all_roots_inside(numbers):
    """Whether all zeros of a polynomial other than nought, real or not, are of absolute value below 1."""
    rest = numbers
    # With the quotient of its first and last number below 1 there are as many inside for the shorter one (Schur, Cohn).
    while len(rest) > 1:
        first, last = rest[0], rest[-1]
        if abs(first) >= abs(last):
            return False
        shorter = [last * number - first * more for number, more in zip(rest, rest[::-1])]
        rest = over_content(shorter[1:])
    return True
