"""Splitters, which lead a row to two channels, and joiners, which lead two channels to a row."""

from bandsplits.errors import InvalidChannels, InvalidJoiner, InvalidSplitter, InvalidTable
from bandsplits.ratios import over, plus
from bandsplits.rows import (
    NOUGHT_ROW, alternated, energy_of, every_second, is_row, moved, need_row, row_product, row_quotient, row_sum,
    row_with_parts, spread_product,
)
from bandsplits.tables import adjoint_of, table_determinant, table_product


def is_pair(value):
    """Whether a value, whatever it is, is a tuple of two."""
    return isinstance(value, tuple) and len(value) == 2


def is_pair_of_rows(value):
    """Whether a value, whatever it is, is a pair of rows."""
    return is_pair(value) and is_row(value[0]) and is_row(value[1])


def need_splitter(splitter):
    """Raise InvalidSplitter for what is no pair of rows."""
    if not is_pair_of_rows(splitter):
        raise InvalidSplitter(splitter)


def need_joiner(joiner):
    """Raise InvalidJoiner for what is no pair of rows."""
    if not is_pair_of_rows(joiner):
        raise InvalidJoiner(joiner)


def need_channels(channels):
    """Raise InvalidChannels for what is no pair of rows."""
    if not is_pair(channels):
        raise InvalidChannels(None)
    for index, channel in enumerate(channels):
        if not is_row(channel):
            raise InvalidChannels(index)


def is_table(value):
    """Whether a value, whatever it is, is a pair of pairs of rows."""
    return is_pair(value) and is_pair_of_rows(value[0]) and is_pair_of_rows(value[1])


def need_table(table):
    """Raise InvalidTable for what is no pair of pairs of rows."""
    if not is_table(table):
        raise InvalidTable(table)


def split(splitter, row):
    """The pair of channels to which the splitter leads the row."""
    need_splitter(splitter)
    need_row(row)
    return channels_by(splitter, row)


def channels_by(splitter, row):
    """As split, without looking whether the arguments are right."""
    low, high = splitter
    return (every_second(row_product(low, row), 0), every_second(row_product(high, row), 0))


def share_of(splitter, row):
    """The energy of both channels over that of the row, which is not nought."""
    low, high = channels_by(splitter, row)
    return over(plus(energy_of(low), energy_of(high)), energy_of(row))


def join(joiner, channels):
    """The row to which the joiner leads both channels."""
    need_joiner(joiner)
    need_channels(channels)
    return row_by(joiner, channels)


def row_by(joiner, channels):
    """As join, without looking whether the arguments are right."""
    return row_sum(spread_product(joiner[0], channels[0]), spread_product(joiner[1], channels[1]))


def table_of(splitter):
    """The splitter's table, a pair of pairs of rows."""
    need_splitter(splitter)
    low, high = splitter
    return (parts_of(low), parts_of(high))


def parts_of(row):
    """The line of the table that tells this row of a splitter."""
    return (every_second(row, 0), moved(every_second(row, 1), 1))


def splitter_with(table):
    """The splitter that has this table."""
    need_table(table)
    (low_even, low_odd), (high_even, high_odd) = table
    return (row_with_parts(low_even, moved(low_odd, -1)), row_with_parts(high_even, moved(high_odd, -1)))


def determinant_of(splitter):
    """The determinant of the splitter's table."""
    return table_determinant(table_of(splitter))


def delay_of(splitter, joiner):
    """The d by which the joiner gives all rows back late; None if there is none."""
    need_splitter(splitter)
    need_joiner(joiner)
    # Half of this much is made of x(z), and half of the other of x(-z), which must not come through.
    straight = row_sum(row_product(joiner[0], splitter[0]), row_product(joiner[1], splitter[1]))
    low, high = alternated(splitter[0]), alternated(splitter[1])
    turned = row_sum(row_product(joiner[0], low), row_product(joiner[1], high))
    if turned != NOUGHT_ROW or straight[1] != ((2, 1),):
        return None
    return straight[0]


def table_between(splitter, other):
    """The table that leads the channels by the splitter to those by the other one, for all rows.

    None if there is none, or if the determinant of the first splitter is nought.
    """
    need_splitter(splitter)
    need_splitter(other)
    table = table_of(splitter)
    determinant = table_determinant(table)
    # The told table times the first splitter's is the other one's: the first one's is undone from the right.
    multiple = table_product(table_of(other), adjoint_of(table))
    found = [row_quotient(row, determinant) for line in multiple for row in line]
    if None in found:
        return None
    return ((found[0], found[1]), (found[2], found[3]))
