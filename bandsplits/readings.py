"""Splitters read off rows and their channels."""

from bandsplits.losses import lost_parts, near_nought
from bandsplits.polynomials import cofactors_of, product_at
from bandsplits.ratios import over_one_bottom, reduced
from bandsplits.rows import (
    NOUGHT_ROW, common_factor, every_second, moved, need_row, opposite, row_from, row_product, row_quotient, row_sum,
    sum_of_products,
)
from bandsplits.splitters import channels_by, need_channels, need_splitter, splitter_with, table_of
from bandsplits.tables import table_determinant

NOUGHT_PAIR = (NOUGHT_ROW, NOUGHT_ROW)


def both_parts(row):
    """The pair of the row's even and odd part, which the table of a splitter leads to the channels."""
    return (every_second(row, 0), every_second(row, 1))


def do_tell(row, other):
    """Whether both rows tell splitters: no two unlike ones have the same channels for both."""
    need_row(row)
    need_row(other)
    return parts_determinant(row, other) != NOUGHT_ROW


def parts_determinant(row, other):
    """The determinant of the parts of both rows."""
    return table_determinant((both_parts(row), both_parts(other)))


def splitter_for(row, channels):
    """Any splitter that leads the row to these channels; None if there is none."""
    need_row(row)
    need_channels(channels)
    return splitter_by_one(row, channels)


def splitter_by_one(row, channels):
    """As splitter_for, without looking whether the arguments are right."""
    if row == NOUGHT_ROW:
        return NOUGHT_PAIR if channels == NOUGHT_PAIR else None
    even, odd = both_parts(row)
    shared = common_factor(even, odd)
    wanted = [row_quotient(channel, shared) for channel in channels]
    if None in wanted:
        return None
    by_even, by_odd = weights_of(row_quotient(even, shared), row_quotient(odd, shared))
    return splitter_with(tuple([(row_product(line, by_even), row_product(line, by_odd)) for line in wanted]))


def weights_of(row, other):
    """Two rows which, times two rows without a common factor, sum to the unit row."""
    numbers, bottom = over_one_bottom(row[1])
    others, lower = over_one_bottom(other[1])
    first, second = cofactors_of(numbers, others)
    total = product_at(numbers, first, 0) + product_at(others, second, 0)
    return (
        row_from(-row[0], [reduced(bottom * number, total) for number in first]),
        row_from(-other[0], [reduced(lower * number, total) for number in second]),
    )


def splitter_read(row, channels, other, others):
    """Any splitter that leads both rows to their channels, the only one if they tell; None if there is none."""
    need_row(row)
    need_channels(channels)
    need_row(other)
    need_channels(others)
    determinant = parts_determinant(row, other)
    if determinant != NOUGHT_ROW:
        return splitter_told(row, channels, other, others, determinant)
    # The parts of both rows are multiples of one pair: what leads one row, not nought, to its channels decides
    # where the other one is led.
    if row == NOUGHT_ROW:
        return splitter_fitting(other, others, row, channels)
    return splitter_fitting(row, channels, other, others)


def splitter_told(row, channels, other, others, determinant):
    """The splitter that leads both rows, which tell, to their channels; None if there is none."""
    (even, odd), (other_even, other_odd) = both_parts(row), both_parts(other)
    lines = []
    for channel, second in zip(channels, others):
        by_even = sum_of_products(((channel, other_odd), (opposite(second), odd)))
        by_odd = sum_of_products(((even, second), (opposite(other_even), channel)))
        lines.append((row_quotient(by_even, determinant), row_quotient(by_odd, determinant)))
    if None in lines[0] or None in lines[1]:
        return None
    return splitter_with(tuple(lines))


def splitter_fitting(row, channels, other, others):
    """Any splitter that leads the row to its channels, if it leads the other one to its own, too; else None."""
    found = splitter_by_one(row, channels)
    if found is None or channels_by(found, other) != others:
        return None
    return found


def unlike_splitter(splitter, row, other):
    """Any other splitter with the same channels for both rows; None if they tell."""
    need_splitter(splitter)
    need_row(row)
    need_row(other)
    if parts_determinant(row, other) != NOUGHT_ROW:
        return None
    by_even, by_odd = near_nought(lost_parts((both_parts(row), both_parts(other))))
    (low_even, low_odd), high = table_of(splitter)
    # Any multiple may be added; this one is where the low row is.
    places = splitter[0][0] // 2
    return splitter_with(((row_sum(low_even, moved(by_even, places)), row_sum(low_odd, moved(by_odd, places))), high))
