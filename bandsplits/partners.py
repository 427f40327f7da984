"""Partners of a row: those rows with which it makes a splitter that loses nothing."""

from bandsplits.errors import InvalidFraction, NotAPartner
from bandsplits.polynomials import cofactors_of, together_over_content
from bandsplits.ratios import ZERO, is_fraction, minus, need_whole_between, over, over_one_bottom
from bandsplits.rows import (
    SUMS_ROW, UNIT_ROW, common_factor, every_second, moved, need_row, row_difference, row_from, row_product,
    row_quotient, row_sum, row_with_parts, scaled, spread_product, sum_of_numbers,
)
from bandsplits.splitters import parts_of
from bandsplits.tables import table_determinant

GAPS_ROW = (0, ((1, 1), (-1, 1)))


def partner_of(row):
    """Any partner of the row; None if there is none."""
    need_row(row)
    if bar_of(row) is not None:
        return None
    even, odd = every_second(row, 0), every_second(row, 1)
    numbers, bottom = over_one_bottom(even[1])
    others, lower = over_one_bottom(odd[1])
    cofactors = cofactors_of(numbers, others)
    by_even, by_odd = together_over_content((
        [bottom * number for number in cofactors[0]], [-lower * number for number in cofactors[1]],
    ))
    found = row_with_parts(
        row_from(-odd[0], [(number, 1) for number in by_odd]),
        row_from(-even[0], [(number, 1) for number in by_even]),
    )
    # As near the row as can be: later by an even number of places it is a partner, too.
    return moved(found, (row[0] - found[0]) // 2 * 2)


def partner_bar(row):
    """The plain common factor of both parts if the row has no partner; None if it has one."""
    need_row(row)
    return bar_of(row)


def bar_of(row):
    """As partner_bar, without looking whether the argument is right."""
    shared = common_factor(every_second(row, 0), every_second(row, 1))
    return None if shared == UNIT_ROW else shared


def determinant_with(row, other):
    """The determinant of the splitter of both rows."""
    return table_determinant((parts_of(row), parts_of(other)))


def is_single(row):
    """Whether the row has just one number other than 0."""
    return len(row[1]) == 1


def is_partner(row, other):
    """Whether the other row is a partner of the row."""
    need_row(row)
    need_row(other)
    return is_single(determinant_with(row, other))


def need_partner(row, other):
    """Raise NotAPartner for an other row that is no partner of the row."""
    if not is_single(determinant_with(row, other)):
        raise NotAPartner(other)


def partner_by(row, other, factor, places, step):
    """The partner factor * z ** (2 * places) * other + step(zz) * row, by a partner that is known."""
    need_row(row)
    need_row(other)
    if not is_fraction(factor) or factor == ZERO:
        raise InvalidFraction(factor)
    need_whole_between(places, -1000, 1000)
    need_row(step)
    need_partner(row, other)
    return row_sum(moved(scaled(other, factor), 2 * places), spread_product(row, step))


def partner_parts(row, other, third):
    """The triple (FACTOR, PLACES, STEP) by which the third row is made of the other one, both partners of the row."""
    need_row(row)
    need_row(other)
    need_row(third)
    need_partner(row, other)
    need_partner(row, third)
    known, made = determinant_with(row, other), determinant_with(row, third)
    factor = over(made[1][0], known[1][0])
    places = made[0] - known[0]
    rest = row_difference(third, moved(scaled(other, factor), 2 * places))
    return (factor, places, every_second(row_quotient(rest, row), 0))


def flat_partner(row, many):
    """Any partner of the row that is divisible by (1 - z) ** many; None if there is none."""
    need_row(row)
    need_whole_between(many, 0, 8)
    found = partner_of(row)
    total = sum_of_numbers(row)
    if found is None or many == 0:
        return found
    if total == ZERO:
        return None
    # As flat as it has to be so far, it is the flat row times the rest.
    flat, rest, change = UNIT_ROW, found, row
    for _ in range(many):
        factor = minus(over(sum_of_numbers(rest), sum_of_numbers(change)))
        if factor != ZERO:
            rest = row_sum(rest, scaled(change, factor))
        rest = row_quotient(rest, GAPS_ROW)
        flat = row_product(flat, GAPS_ROW)
        change = row_product(change, SUMS_ROW)
    return row_product(flat, rest)
