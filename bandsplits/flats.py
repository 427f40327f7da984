"""Flat rows, which make nought of powers, rows that carry powers, and symmetric rows."""

from math import comb

from bandsplits.polynomials import without_top
from bandsplits.ratios import ONE, ZERO, need_many, need_whole_between, over_one_bottom, reduced
from bandsplits.rows import NOUGHT_ROW, UNIT_ROW, alternated, every_second, need_row, row_from

ALL = "all"


def flatness_of(row):
    """The greatest p such that (1 - z) ** p divides the row; the text `all` for the nought row."""
    need_row(row)
    if row == NOUGHT_ROW:
        return ALL
    numbers = over_one_bottom(row[1])[0]
    found = 0
    while sum(numbers) == 0:
        numbers = sums_so_far(numbers)[:-1]
        found += 1
    return found


def sums_so_far(numbers):
    """The sums of the numbers up to each place: the series of the polynomial over 1 - z."""
    total = 0
    out = []
    for number in numbers:
        total = total + number
        out.append(total)
    return out


def roundness_of(row):
    """The greatest p such that (1 + z) ** p divides the row; the text `all` for the nought row."""
    return flatness_of(alternated(row))


def is_flat(row, many):
    """Whether (1 - z) ** many divides the row, for a number from 0 on."""
    return row == NOUGHT_ROW or flatness_of(row) >= many


def silences(row, many):
    """Whether the row makes nought of all n ** j with j below many."""
    need_row(row)
    need_many(many)
    return is_flat(row, many)


def carries(row, many):
    """Whether all polynomials of degree below many, spread out, then times the row, become polynomials."""
    need_row(row)
    need_many(many)
    return row == NOUGHT_ROW or roundness_of(row) >= many


def on_power(row, order):
    """The polynomial of n that the row makes of n ** order: a tuple of fractions, the lowest power first."""
    need_row(row)
    need_whole_between(order, 0, 8)
    numbers, bottom = over_one_bottom(row[1])
    out = []
    # At n stands the sum of h_k (n - k) ** order over k.
    for power in range(order + 1):
        total = moment_of(numbers, -row[0], order - power)
        out.append(comb(order, power) * total)
    return tuple([reduced(number, bottom) for number in without_top(out)])


def moment_of(numbers, first, order):
    """The sum of the numbers, each times the power of its place, told by the first one; the places go down."""
    terms = numbers
    for _ in range(order):
        terms = [number * (first - at) for at, number in enumerate(terms)]
    return sum(terms)


def symmetry_of(row):
    """The pair (SIGN, SUM) of a symmetric row; None if it is not symmetric; the text `all` for the nought row."""
    need_row(row)
    if row == NOUGHT_ROW:
        return ALL
    start, numbers = row
    places = 2 * start + len(numbers) - 1
    if numbers == numbers[::-1]:
        return (1, places)
    if numbers == tuple([(-top, bottom) for top, bottom in numbers[::-1]]):
        return (-1, places)
    return None


def is_half_band(row):
    """Whether the row's even part is 1 at place 0 alone."""
    need_row(row)
    return every_second(row, 0) == UNIT_ROW


def flattest_half_band(order):
    """The half band from the place 1 - 2 * order to the opposite one that (1 + z) ** (2 * order) divides."""
    need_whole_between(order, 1, 8)
    odd_places = list(range(1 - 2 * order, 2 * order, 2))
    out = [ZERO] * (4 * order - 1)
    out[2 * order - 1] = ONE
    for place in odd_places:
        out[place + 2 * order - 1] = weight_at(place, odd_places)
    return row_from(1 - 2 * order, out)


def weight_at(place, places):
    """The number at the place by which values at the places tell that at 0, for polynomials of lesser degree."""
    # A row with these numbers and -1 at place 0 makes nought of all these polynomials (Lagrange).
    top, bottom = 1, 1
    for other in places:
        if other != place:
            top, bottom = top * -other, bottom * (place - other)
    return reduced(top, bottom)
