"""Masks, and the curves to which halving by them for ever comes."""

from math import comb

from bandsplits.equations import kernel_of, least_rule, less_on_diagonal
from bandsplits.errors import InvalidMask, NoCurve, NotSteep
from bandsplits.polynomials import has_all_roots_inside
from bandsplits.ratios import ONE, ZERO, need_whole, need_whole_between, over, over_one_bottom, plus, reduced, times
from bandsplits.rows import (
    SUMS_ROW, UNIT_ROW, every_second, is_row, need_row, number_there, row_from, row_product, row_quotient, scaled,
    size_row, spread_product, sum_of_numbers,
)


def is_mask(value):
    """Whether a value, whatever it is, is a mask."""
    return is_row(value) and value[0] == 0 and 2 <= len(value[1]) <= 9


def need_mask(mask):
    """Raise InvalidMask for what is no mask."""
    if not is_mask(mask):
        raise InvalidMask(mask)


def need_steps(steps):
    """Raise InvalidNumber for what is no number of halvings that may stand here."""
    need_whole_between(steps, 0, 6)


def halved(mask, row):
    """The row to which the mask halves the row."""
    need_mask(mask)
    need_row(row)
    return spread_product(mask, row)


def staircase(mask, row, steps):
    """The row after so many halvings."""
    need_mask(mask)
    need_row(row)
    need_steps(steps)
    return after_halvings(mask, row, steps)


def after_halvings(mask, row, steps):
    """As staircase, without looking whether the arguments are right."""
    out = row
    for _ in range(steps):
        out = spread_product(mask, out)
    return out


def transfer(mask, row):
    """The row to which Tr takes the row."""
    need_mask(mask)
    need_row(row)
    return scaled(every_second(row_product(size_row(mask), row), 0), (1, 2))


def transfer_lines(mask):
    """Lines that take rows as Tr does, times a number above 0, which is told behind them.

    They are for rows that are the same turned round, of which a line has the numbers from place 0 on.
    """
    numbers, bottom = over_one_bottom(size_row(mask)[1])
    last = len(mask[1]) - 1
    # Beyond these places Tr makes no numbers of rows that have none there.
    reach = max(1, last - 1)
    sizes = numbers[last:] + [0] * (3 * reach)
    lines = []
    for place in range(reach + 1):
        # The numbers at a place and at the opposite one are the same, and both are used.
        line = [sizes[abs(2 * place - at)] + sizes[2 * place + at] for at in range(reach + 1)]
        line[0] = sizes[2 * place]
        lines.append(line)
    return (lines, 2 * bottom)


def transfer_rule(mask):
    """The least polynomial p with p(Tr) w = 0: a tuple of fractions, the lowest power first, the last one 1."""
    need_mask(mask)
    return rule_of(mask)


def rule_of(mask):
    """As transfer_rule, without looking whether the argument is right."""
    lines, factor = transfer_lines(mask)
    numbers = least_rule(lines, [2, -1] + [0] * (len(lines) - 2))
    out = []
    power = 1
    # The lines take more than Tr does, by the factor.
    for number in reversed(numbers):
        out.append(reduced(number, numbers[-1] * power))
        power = power * factor
    return tuple(out[::-1])


def has_curve(mask):
    """Whether the mask has a curve."""
    need_mask(mask)
    return comes_to_curve(mask)


def comes_to_curve(mask):
    """As has_curve, without looking whether the argument is right."""
    if sum_of_numbers(every_second(mask, 0)) != ONE or sum_of_numbers(every_second(mask, 1)) != ONE:
        return False
    return has_all_roots_inside(over_one_bottom(rule_of(mask))[0])


def need_curve(mask):
    """Raise NoCurve for a mask that has no curve."""
    if not comes_to_curve(mask):
        raise NoCurve()


def inner_products(mask):
    """The row of the inner products of the curve with its shifts."""
    need_mask(mask)
    need_curve(mask)
    return products_of(mask)


def products_of(mask):
    """As inner_products, for a mask that has a curve."""
    lines, factor = transfer_lines(mask)
    numbers = kernel_of(less_on_diagonal(lines, factor))
    whole = row_from(1 - len(numbers), numbers[:0:-1] + numbers)
    return with_sum_one(whole)


def with_sum_one(row):
    """The row times the number that makes its sum 1."""
    return scaled(row, over(ONE, sum_of_numbers(row)))


def has_right_angles(mask):
    """Whether the curve and its shifts by whole numbers stand at right angles."""
    need_mask(mask)
    need_curve(mask)
    return products_of(mask) == UNIT_ROW


def curve_moment(mask, order):
    """The integral of t ** order times the curve."""
    need_mask(mask)
    need_whole_between(order, 0, 8)
    need_curve(mask)
    sums = power_sums(mask, order)
    found = [ONE]
    for power in range(1, order + 1):
        total = ZERO
        for lower in range(power):
            weight = (comb(power, lower), 1)
            total = plus(total, times(weight, times(found[lower], sums[power - lower])))
        found.append(over(total, (2 * ((1 << power) - 1), 1)))
    return found[order]


def power_sums(mask, order):
    """For each power up to the order the sum of the mask's numbers times this power of their places."""
    terms, bottom = over_one_bottom(mask[1])
    out = []
    for _ in range(order + 1):
        out.append(reduced(sum(terms), bottom))
        terms = [place * number for place, number in enumerate(terms)]
    return out


def steepness(mask):
    """The greatest order of which the mask is steep; None if it has no curve."""
    need_mask(mask)
    if not comes_to_curve(mask):
        return None
    order, rest = 0, steeper_part(mask)
    # A mask that is steep of some order is so of all lesser ones.
    while rest is not None and comes_to_curve(rest):
        order, rest = order + 1, steeper_part(rest)
    return order


def steeper_part(mask):
    """The mask that is the quotient by 1 + z times 2; None if there is no such mask."""
    found = row_quotient(mask, SUMS_ROW)
    if found is None:
        return None
    doubled = scaled(found, (2, 1))
    return doubled if is_mask(doubled) else None


def curve_at(mask, place, steps):
    """The curve's number at place / 2 ** steps."""
    need_mask(mask)
    need_whole(place)
    need_steps(steps)
    rest = steeper_part(mask)
    if rest is None or not comes_to_curve(rest):
        raise NotSteep()
    return number_there(row_product(values_at_wholes(mask), after_halvings(mask, UNIT_ROW, steps)), place)


def values_at_wholes(mask):
    """The row of the numbers of a steep mask's curve at whole places."""
    numbers, bottom = over_one_bottom(mask[1])
    last = len(numbers) - 1
    padded = [0] * last + numbers + [0] * last
    # At a place stands the sum of the mask's numbers, each times the curve's at twice the place less the number's own.
    lines = [[padded[last + 2 * place - at] for at in range(1, last)] for place in range(1, last)]
    return with_sum_one(row_from(1, kernel_of(less_on_diagonal(lines, bottom))))
