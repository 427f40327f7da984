"""Whole ladders: rounded steps, which lead whole numbers to whole numbers, and back."""

from math import lcm

from bandsplits.errors import InvalidChannels, InvalidLadder, InvalidRow
from bandsplits.ladders import LOW, first_table, is_ladder, table_after
from bandsplits.ratios import ZERO, plus, times
from bandsplits.rows import (
    every_second, is_row, moved, opposite, row_from, row_product, row_sum, row_with_parts, scaled,
)
from bandsplits.splitters import is_pair

SIGNS = ((1, 1), (-1, 1))


def is_whole_ladder(value):
    """Whether a value, whatever it is, is a ladder that is whole."""
    return is_ladder(value) and value[1][0][0] in SIGNS and value[1][1][0] in SIGNS


def need_whole_ladder(ladder):
    """Raise InvalidLadder for what is no ladder, or one that is not whole."""
    if not is_whole_ladder(ladder):
        raise InvalidLadder(ladder)


def has_whole_numbers(row):
    """Whether all numbers of the row are whole."""
    return all([bottom == 1 for _, bottom in row[1]])


def need_whole_row(row):
    """Raise InvalidRow for what is no row, or one with a number that is not whole."""
    if not is_row(row) or not has_whole_numbers(row):
        raise InvalidRow(row)


def need_whole_channels(channels):
    """Raise InvalidChannels for what is no pair of rows with whole numbers."""
    if not is_pair(channels):
        raise InvalidChannels(None)
    for index, channel in enumerate(channels):
        if not is_row(channel) or not has_whole_numbers(channel):
            raise InvalidChannels(index)


def rounded(row):
    """The row with each number rounded, halves up."""
    return row_from(row[0], [((2 * top + bottom) // (2 * bottom), 1) for top, bottom in row[1]])


def product_in_step(step, low, high):
    """What the step adds to a channel, unless it is rounded."""
    return row_product(step[1], high if step[0] == LOW else low)


def with_change(way, low, high, change):
    """Both channels, the change added to one of them."""
    if way == LOW:
        return (row_sum(low, change), high)
    return (low, row_sum(high, change))


def channels_at_first(ladder, row):
    """The channels of a row of whole numbers before the first step."""
    (low_sign, low_places), (high_sign, high_places) = ladder[1]
    low = moved(scaled(every_second(row, 0), low_sign), low_places)
    high = moved(scaled(every_second(row, 1), high_sign), high_places + 1)
    return (low, high)


def split_whole(ladder, row):
    """The rounded channels to which the whole ladder leads the row."""
    need_whole_ladder(ladder)
    need_whole_row(row)
    low, high = channels_at_first(ladder, row)
    for step in ladder[0]:
        low, high = with_change(step[0], low, high, rounded(product_in_step(step, low, high)))
    return (low, high)


def join_whole(ladder, channels):
    """The row that has these rounded channels."""
    need_whole_ladder(ladder)
    need_whole_channels(channels)
    low, high = channels
    for step in reversed(ladder[0]):
        # The other channel is the one from which the change was worked out.
        low, high = with_change(step[0], low, high, opposite(rounded(product_in_step(step, low, high))))
    (low_sign, low_places), (high_sign, high_places) = ladder[1]
    even = moved(scaled(low, low_sign), -low_places)
    odd = moved(scaled(high, high_sign), -high_places - 1)
    return row_with_parts(even, odd)


def is_rounded(ladder, row):
    """Whether, taken rounded from the first step on, some step rounds a number that is not whole."""
    need_whole_ladder(ladder)
    need_whole_row(row)
    low, high = channels_at_first(ladder, row)
    for step in ladder[0]:
        change = product_in_step(step, low, high)
        if not has_whole_numbers(change):
            return True
        low, high = with_change(step[0], low, high, change)
    return False


def least_multiple(ladder):
    """The least number such that no step rounds anything for rows of multiples of it."""
    need_whole_ladder(ladder)
    steps, scale = ladder
    table = first_table(scale)
    found = 1
    for step in steps:
        table = table_after(table, step)
        for line in table:
            for row in line:
                for number in row[1]:
                    found = lcm(found, number[1])
    return found


def rounding_bounds(ladder):
    """The pair of bounds within which the rounded channels stay near those that are not rounded."""
    need_whole_ladder(ladder)
    low, high = ZERO, ZERO
    for way, row in ladder[0]:
        if way == LOW:
            low = bound_after(low, row, high)
        else:
            high = bound_after(high, row, low)
    return (low, high)


def bound_after(bound, row, other):
    """The bound of the channel that a step with the row changes by one with the other bound."""
    reach = ZERO
    for top, bottom in row[1]:
        reach = plus(reach, (abs(top), bottom))
    found = plus(bound, times(reach, other))
    return found if has_whole_numbers(row) else plus(found, (1, 2))
