"""Rows: numbers at whole places, 0 at all but finitely many of them."""

from math import lcm

from bandsplits.errors import InvalidNumbers, InvalidRow
from bandsplits.polynomials import (
    content_of, division_of, greatest_common, multiplier_of, over_content, product_of, quotient_of, span_without,
    whole_quotient,
)
from bandsplits.ratios import (
    ZERO, is_fraction, is_whole, minus, need_whole, need_whole_between, over_one_bottom, plus, reduced, times,
)

NOUGHT_ROW = (0, ())
UNIT_ROW = (0, ((1, 1),))
SUMS_ROW = (0, ((1, 1), (1, 1)))


def is_row(value):
    """Whether a value, whatever it is, is a row."""
    if not isinstance(value, tuple) or len(value) != 2:
        return False
    start, numbers = value
    if not is_whole(start) or not isinstance(numbers, tuple):
        return False
    if len(numbers) == 0:
        return start == 0
    if not all(is_fraction(number) for number in numbers):
        return False
    return numbers[0] != ZERO and numbers[-1] != ZERO


def need_row(row):
    """Raise InvalidRow for what is no row."""
    if not is_row(row):
        raise InvalidRow(row)


def row_of(start, numbers):
    """The row that has these numbers from the place on, noughts at the ends left out."""
    need_whole_between(start, -1000, 1000)
    if not isinstance(numbers, tuple):
        raise InvalidNumbers(None)
    for index, number in enumerate(numbers):
        if not is_fraction(number):
            raise InvalidNumbers(index)
    return row_from(start, numbers)


def row_from(start, numbers):
    """As row_of, for fractions from any place on."""
    first, end = span_without(numbers, ZERO)
    if first == end:
        return NOUGHT_ROW
    return (start + first, tuple(numbers[first:end]))


def number_at(row, place):
    """The row's number at the place."""
    need_row(row)
    need_whole(place)
    return number_there(row, place)


def number_there(row, place):
    """As number_at, without looking whether the arguments are right."""
    start, numbers = row
    if start <= place < start + len(numbers):
        return numbers[place - start]
    return ZERO


def added(row, other):
    """The sum of two rows."""
    need_row(row)
    need_row(other)
    return row_sum(row, other)


def row_sum(row, other):
    """As added, without looking whether the arguments are right."""
    if row == NOUGHT_ROW:
        return other
    if other == NOUGHT_ROW:
        return row
    start = min(row[0], other[0])
    end = max(row[0] + len(row[1]), other[0] + len(other[1]))
    numbers = [ZERO] * (end - start)
    for at, number in enumerate(row[1]):
        numbers[row[0] - start + at] = number
    for at, number in enumerate(other[1]):
        place = other[0] - start + at
        numbers[place] = plus(numbers[place], number)
    return row_from(start, numbers)


def opposite(row):
    """The row with the opposite numbers."""
    return (row[0], tuple([minus(number) for number in row[1]]))


def row_difference(row, other):
    """The row that the other one has to be added to, to give the first."""
    return row_sum(row, opposite(other))


def multiplied(row, other):
    """The product of two rows."""
    need_row(row)
    need_row(other)
    return row_product(row, other)


def row_product(row, other):
    """As multiplied, without looking whether the arguments are right."""
    return sum_of_products(((row, other),))


def sum_of_products(pairs):
    """The sum of the products of the rows in each pair."""
    terms = []
    common = 1
    for row, other in pairs:
        numbers, bottom = over_one_bottom(row[1])
        others, lower = over_one_bottom(other[1])
        if numbers and others:
            terms.append((row[0] + other[0], product_of(numbers, others), bottom * lower))
            common = lcm(common, bottom * lower)
    start = min([term[0] for term in terms], default=0)
    end = max([first + len(numbers) for first, numbers, _ in terms], default=0)
    # All is added up in whole numbers, so that each number is reduced just once.
    total = [0] * (end - start)
    for first, numbers, bottom in terms:
        factor = common // bottom
        for place, number in enumerate(numbers, start=first - start):
            total[place] += factor * number
    return row_from(start, [reduced(number, common) for number in total])


def size_row(row):
    """The product of the row and itself turned round."""
    return row_product(row, mirrored(row))


def scaled(row, factor):
    """The row with all numbers times the factor, a fraction other than 0."""
    return (row[0], tuple([times(number, factor) for number in row[1]]))


def later(row, places):
    """The row later by so many places."""
    need_row(row)
    need_whole_between(places, -1000, 1000)
    return moved(row, places)


def moved(row, places):
    """As later, by any whole number."""
    return row_from(row[0] + places, row[1])


def turned_round(row):
    """The row that has at each place the number at the opposite place."""
    need_row(row)
    return mirrored(row)


def mirrored(row):
    """As turned_round, without looking whether the argument is right."""
    start, numbers = row
    return row_from(1 - start - len(numbers), numbers[::-1])


def alternated(row):
    """The row with the opposite numbers at odd places."""
    need_row(row)
    start, numbers = row
    out = []
    for place, number in enumerate(numbers, start=start):
        out.append(number if place % 2 == 0 else minus(number))
    return (start, tuple(out))


def even_part(row):
    """The row that has at each place the number at the double of it."""
    need_row(row)
    return every_second(row, 0)


def odd_part(row):
    """The row that has at each place the number at the double of it and 1."""
    need_row(row)
    return every_second(row, 1)


def every_second(row, shift):
    """The row that has at each place the number at the double of it and the shift, 0 or 1."""
    start, numbers = row
    ahead = (start + shift) % 2
    return row_from((start + ahead - shift) // 2, numbers[ahead::2])


def spread_out(row):
    """The row that has at the double of each place the number there, and 0 at odd places."""
    start, numbers = row
    out = [ZERO] * (2 * len(numbers))
    for at, number in enumerate(numbers):
        out[2 * at] = number
    return row_from(2 * start, out)


def spread_product(row, other):
    """The product of the first row and the other one spread out."""
    return row_product(row, spread_out(other))


def woven(row, other):
    """The row whose even part is the first row, and whose odd part the other one."""
    need_row(row)
    need_row(other)
    return row_with_parts(row, other)


def row_with_parts(even, odd):
    """As woven, without looking whether the arguments are right."""
    return row_sum(spread_out(even), moved(spread_out(odd), 1))


def quotient(row, other):
    """The row whose product with the other one is the first; None if there is none, or the other one is nought."""
    need_row(row)
    need_row(other)
    return row_quotient(row, other)


def row_quotient(row, other):
    """As quotient, without looking whether the arguments are right."""
    if other == NOUGHT_ROW:
        return None
    numbers, bottom = over_one_bottom(row[1])
    others, lower = over_one_bottom(other[1])
    # Gauss: what such a divisor divides, it divides in whole numbers.
    found = whole_quotient(numbers, over_content(others))
    if found is None:
        return None
    bottom = bottom * content_of(others)
    return row_from(row[0] - other[0], [reduced(number * lower, bottom) for number in found])


def row_division(row, other):
    """The pair of a row and a rest, shorter than the other row: this times the row, and the rest, give the first.

    The other row is not nought.
    """
    numbers, bottom = over_one_bottom(row[1])
    others, lower = over_one_bottom(other[1])
    rest, steps = division_of(numbers, others)
    bottom = bottom * multiplier_of(steps)
    found = [reduced(number * lower, bottom) for number in quotient_of(steps)]
    left = [reduced(number, bottom) for number in rest]
    return (row_from(row[0] - other[0], found), row_from(row[0], left))


def common_factor(row, other):
    """The greatest common factor, from place 0 on, with 1 there; the nought row for two of these."""
    need_row(row)
    need_row(other)
    found = greatest_common(over_one_bottom(row[1])[0], over_one_bottom(other[1])[0])
    return row_from(0, [reduced(number, found[0]) for number in found])


def sum_of_numbers(row):
    """The sum of the row's numbers."""
    numbers, bottom = over_one_bottom(row[1])
    return reduced(sum(numbers), bottom)


def energy_of(row):
    """The sum of the squares of the row's numbers."""
    numbers, bottom = over_one_bottom(row[1])
    return reduced(sum([number * number for number in numbers]), bottom * bottom)
