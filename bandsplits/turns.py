"""Keepers of energy, and the rows of turns that they are."""

from math import gcd

from bandsplits.errors import InvalidTurns
from bandsplits.ratios import ZERO, is_below, is_fraction, is_whole, plus, reduced, times
from bandsplits.rows import (
    NOUGHT_ROW, alternated, every_second, mirrored, moved, need_row, number_there, row_from, size_row,
)
from bandsplits.splitters import is_pair, need_splitter, splitter_with, table_of
from bandsplits.tables import moved_table, table_product, turned_table


def is_turns(value):
    """Whether a value, whatever it is, is turns."""
    if not isinstance(value, tuple) or len(value) != 3:
        return False
    shift, directions, last = value
    if not is_whole(shift) or not isinstance(directions, tuple) or not is_last_table(last):
        return False
    if not all([is_direction(direction) for direction in directions]):
        return False
    for at, (first, second) in enumerate(directions[1:]):
        if first * directions[at][0] + second * directions[at][1] == 0:
            return False
    return True


def need_turns(turns):
    """Raise InvalidTurns for what is no turns."""
    if not is_turns(turns):
        raise InvalidTurns(turns)


def is_direction(value):
    """Whether a value, whatever it is, is the one pair of whole numbers that stands for its direction."""
    if not is_pair(value) or not is_whole(value[0]) or not is_whole(value[1]):
        return False
    return gcd(value[0], value[1]) == 1 and value > (0, 0)


def is_last_table(value):
    """Whether a value, whatever it is, is a table of fractions that keeps energies but for one factor above 0."""
    if not is_pair(value) or not is_pair(value[0]) or not is_pair(value[1]):
        return False
    if not all([is_fraction(number) for line in value for number in line]):
        return False
    (upper_left, upper_right), (lower_left, lower_right) = value
    left = sum_of_products(upper_left, upper_left, lower_left, lower_left)
    right = sum_of_products(upper_right, upper_right, lower_right, lower_right)
    across = sum_of_products(upper_left, upper_right, lower_left, lower_right)
    return left == right and left != ZERO and across == ZERO


def sum_of_products(first, second, third, fourth):
    """first * second + third * fourth."""
    return plus(times(first, second), times(third, fourth))


def energy_factor(splitter):
    """The factor by which the splitter multiplies the energy of all rows; None if it is no keeper."""
    need_splitter(splitter)
    return factor_of(table_of(splitter))


def factor_of(table):
    """As energy_factor, for the splitter's table."""
    (left, across), (_, right) = table_product(turned_table(table), table)
    # What stands at the other corner is the one across turned round.
    if across != NOUGHT_ROW or left != right or not is_above_nought(left):
        return None
    return left[1][0]


def is_above_nought(row):
    """Whether the row is one number above 0 at place 0."""
    return row[0] == 0 and len(row[1]) == 1 and is_below(ZERO, row[1][0])


def is_keeper(splitter):
    """Whether the splitter is a keeper."""
    return energy_factor(splitter) is not None


def keeper_with(row):
    """The keeper with this low row and the first high row that fits; None if there is none."""
    need_row(row)
    if not is_above_nought(every_second(size_row(row), 0)):
        return None
    return (row, alternated(moved(mirrored(row), 1)))


def turns_of(splitter):
    """The turns of a keeper; None for no keeper."""
    need_splitter(splitter)
    table = table_of(splitter)
    if factor_of(table) is None:
        return None
    shift = min([row[0] for line in table for row in line if row != NOUGHT_ROW])
    rest = moved_table(table, -shift)
    directions = []
    while max([row[0] + len(row[1]) for line in rest for row in line]) > 1:
        direction = lowest_direction(rest)
        directions.append(direction)
        # A turn is undone by itself turned round.
        rest = table_product(turned_table(turn_table(direction)), rest)
    return (shift, tuple(directions), numbers_at_nought(rest))


def numbers_at_nought(table):
    """The table's numbers at place 0."""
    return tuple([(number_there(left, 0), number_there(right, 0)) for left, right in table])


def lowest_direction(table):
    """The direction that makes 0 of both columns of the table's numbers at place 0."""
    (upper_left, upper_right), (lower_left, lower_right) = numbers_at_nought(table)
    upper, lower = upper_left, lower_left
    if upper == ZERO and lower == ZERO:
        upper, lower = upper_right, lower_right
    first, second = lower[0] * upper[1], -upper[0] * lower[1]
    common = gcd(first, second)
    if (first, second) < (0, 0):
        common = -common
    return (first // common, second // common)


def turn_table(direction):
    """The table of the turn."""
    first, second = direction
    total = first * first + second * second
    across = row_from(0, [reduced(-first * second, total), reduced(first * second, total)])
    upper = row_from(0, [reduced(second * second, total), reduced(first * first, total)])
    lower = row_from(0, [reduced(first * first, total), reduced(second * second, total)])
    return ((upper, across), (across, lower))


def splitter_by_turns(turns):
    """The splitter whose table the turns tell."""
    need_turns(turns)
    shift, directions, last = turns
    table = tuple([(row_from(0, [left]), row_from(0, [right])) for left, right in last])
    for direction in reversed(directions):
        table = table_product(turn_table(direction), table)
    return splitter_with(moved_table(table, shift))
