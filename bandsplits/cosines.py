"""Rows at the angles of the circle, as polynomials of t = z + 1 / z, twice the cosine.

A form is a pair of a polynomial with whole numbers and a number above 0 by which its values are to be divided.
"""

from math import lcm

from bandsplits.polynomials import weighed_sum, whole_quotient, without_top
from bandsplits.ratios import over_one_bottom
from bandsplits.rows import common_factor, mirrored, row_sum, size_row
from bandsplits.tables import table_determinant


def in_cosines(numbers):
    """The polynomial of t for whole numbers at the places 0, 1, .., and the same ones at -1, -2, .."""
    # z ** k + z ** -k is t times the one before it, less the one before that; for k = 0 half of it is taken.
    before, this = [2], [0, 1]
    out = without_top(numbers[:1])
    for number in numbers[1:]:
        out = weighed_sum(1, out, number, this)
        before, this = this, weighed_sum(1, [0] + this, -1, before)
    return out


def size_form(row):
    """The form of the row's size."""
    return symmetric_form(size_row(row))


def symmetric_form(row):
    """The form of a row that is the same turned round."""
    numbers, bottom = over_one_bottom(row[1])
    return (in_cosines(numbers[len(numbers) // 2:]), bottom)


def share_forms(table):
    """The polynomials of TRACE and DD, and the number above 0 by which the values of both are to be divided."""
    (upper_left, upper_right), (lower_left, lower_right) = table
    upper = row_sum(size_row(upper_left), size_row(upper_right))
    lower = row_sum(size_row(lower_left), size_row(lower_right))
    trace, first = symmetric_form(row_sum(upper, lower))
    square, second = size_form(table_determinant(table))
    bottom = lcm(first, second)
    return ([bottom // first * number for number in trace], [bottom // second * number for number in square], bottom)


def circle_form(row):
    """What tells the zeros on the circle of a row other than nought.

    It is a triple: whether 1 is one, whether -1 is one, and a polynomial of t that is 0, strictly between -2 and 2,
    just where the row is.
    """
    # A zero on the circle is one of the row turned round, too, as the numbers are real.
    shared = over_one_bottom(common_factor(row, mirrored(row))[1])[0]
    at_one, shared = without_factor(shared, [1, -1])
    at_minus_one, shared = without_factor(shared, [1, 1])
    # What is left is the same turned round: its zeros other than 1 and -1 go in pairs w, 1 / w.
    return (at_one, at_minus_one, in_cosines(shared[len(shared) // 2:]))


def without_factor(numbers, factor):
    """Whether the factor divides the polynomial, and the polynomial without it, however often it divides."""
    found = False
    rest = numbers
    shorter = whole_quotient(rest, factor)
    while shorter is not None:
        found = True
        rest = shorter
        shorter = whole_quotient(rest, factor)
    return (found, rest)
