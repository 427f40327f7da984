"""Where polynomials with whole numbers are below 0, or 0, for t from -2 to 2.

A polynomial of degree n is told on an interval by n + 1 weights (Bernstein): the first and the last one are its values
at both ends, if none of them is below 0 it is not, and it has at most as many zeros inside as their signs change.
"""

from math import comb, lcm

from bandsplits.polynomials import odd_part_of_roots, simple_part, value_at_ratio
from bandsplits.ratios import reduced


def weights_of(numbers):
    """The weights, up to a number above 0, of a polynomial other than nought from -2 to 2."""
    moved = on_unit_interval(numbers)
    top = len(moved) - 1
    common = 1
    for power in range(top + 1):
        common = lcm(common, comb(top, power))
    shares = [number * (common // comb(top, at)) for at, number in enumerate(moved)]
    return [weight_of(shares, place) for place in range(top + 1)]


def weight_of(shares, place):
    """The weight at the place, of what each power has in it."""
    return sum([comb(place, at) * shares[at] for at in range(place + 1)])


def on_unit_interval(numbers):
    """The polynomial of s whose values are those of the first at t = 4 s - 2."""
    out = []
    for number in reversed(numbers):
        # What is there so far, times 4 s - 2, and the number.
        grown = [0] + [4 * known for known in out]
        for at, known in enumerate(out):
            grown[at] -= 2 * known
        grown[0] += number
        out = grown
    return out


def halves_of(weights):
    """The weights, up to one number above 0, on both halves of the interval."""
    many = len(weights)
    level = weights
    left, right = [], []
    for at in range(many):
        # Sums stand for means, and are doubled as often as means would have been halved later.
        left.append(level[0] << (many - 1 - at))
        right.append(level[-1] << (many - 1 - at))
        level = [number + level[place + 1] for place, number in enumerate(level[:-1])]
    return (left, right[::-1])


def changes_of(weights):
    """How often the signs of the weights change, noughts left out."""
    signs = [weight > 0 for weight in weights if weight != 0]
    return sum([1 for at, sign in enumerate(signs[1:]) if sign != signs[at]])


def cosine_of(place, depth):
    """The fraction t at so many of the 2 ** depth parts from -2 to 2."""
    return reduced(4 * place - (2 << depth), 1 << depth)


def place_of(cosine):
    """The pair of a place and a depth that cosine_of leads to the cosine, one that it has told."""
    place, parts = reduced(cosine[0] + 2 * cosine[1], 4 * cosine[1])
    return (place, parts.bit_length() - 1)


def roots_inside(numbers):
    """How many zeros a polynomial other than nought has strictly between -2 and 2, each counted once."""
    found = 0
    waiting = [weights_of(simple_part(numbers))]
    while waiting:
        weights = waiting.pop()
        changes = changes_of(weights)
        if changes == 1:
            found += 1
        if changes > 1:
            left, right = halves_of(weights)
            if right[0] == 0:
                found += 1
            waiting.append(left)
            waiting.append(right)
    return found


def has_zero(numbers):
    """Whether a polynomial is 0 somewhere from -2 to 2; the nought polynomial is."""
    if not numbers or value_at_ratio(numbers, 2, 1) == 0 or value_at_ratio(numbers, -2, 1) == 0:
        return True
    return roots_inside(numbers) > 0


def negative_cosine(numbers):
    """Any fraction from -2 to 2 at which the polynomial is below 0; None if there is none."""
    if not numbers:
        return None
    # Without what is squared the polynomial is below 0 on whole intervals, if at all, which halving finds.
    waiting = [(weights_of(odd_part_of_roots(numbers)), 0, 0)]
    while waiting:
        weights, place, depth = waiting.pop()
        if weights[0] < 0:
            return negative_near(numbers, place, depth)
        if weights[-1] < 0:
            return negative_near(numbers, place + 1, depth)
        if min(weights) < 0:
            left, right = halves_of(weights)
            waiting.append((right, 2 * place + 1, depth + 1))
            waiting.append((left, 2 * place, depth + 1))
    return None


def negative_near(numbers, place, depth):
    """A fraction at which the polynomial is below 0, the told one or, where it is 0 there, one near it."""
    near, deeper = 2 * place, depth + 1
    top, bottom = cosine_of(place, depth)
    while value_at_ratio(numbers, top, bottom) >= 0:
        # One step of the halved parts aside, towards the middle from the right end.
        aside = near - 1 if near == 1 << deeper else near + 1
        top, bottom = cosine_of(aside, deeper)
        near, deeper = 2 * near, deeper + 1
    return (top, bottom)
