"""Splitters, which lead a row to two channels, and joiners, which lead two channels to a row."""

from bandsplits.errors import InvalidChannels, InvalidJoiner, InvalidSplitter, InvalidTable
from bandsplits.rows import (
    NOUGHT_ROW, added, alternated, even_part, is_row, later, multiplied, need_row, odd_part, opposite, quotient,
    spread_out, woven,
)


def is_pair(value):
    """Whether a value, whatever it is, is a tuple of two."""
    return isinstance(value, tuple) and len(value) == 2


def is_pair_of_rows(value):
    """Whether a value, whatever it is, is a pair of rows."""
    return is_pair(value) and is_row(value[0]) and is_row(value[1])


def need_splitter(splitter):
    """Raise InvalidSplitter for what is no pair of rows."""
    if not is_pair_of_rows(splitter):
        raise InvalidSplitter(splitter)


def need_joiner(joiner):
    """Raise InvalidJoiner for what is no pair of rows."""
    if not is_pair_of_rows(joiner):
        raise InvalidJoiner(joiner)


def need_channels(channels):
    """Raise InvalidChannels for what is no pair of rows."""
    if not is_pair(channels):
        raise InvalidChannels(None)
    for index, channel in enumerate(channels):
        if not is_row(channel):
            raise InvalidChannels(index)


def need_table(table):
    """Raise InvalidTable for what is no pair of pairs of rows."""
    if not is_pair(table) or not is_pair_of_rows(table[0]) or not is_pair_of_rows(table[1]):
        raise InvalidTable(table)


def split(splitter, row):
    """The pair of channels to which the splitter leads the row."""
    need_splitter(splitter)
    need_row(row)
    low, high = splitter
    return (even_part(multiplied(low, row)), even_part(multiplied(high, row)))


def join(joiner, channels):
    """The row to which the joiner leads both channels."""
    need_joiner(joiner)
    need_channels(channels)
    low = multiplied(joiner[0], spread_out(channels[0]))
    high = multiplied(joiner[1], spread_out(channels[1]))
    return added(low, high)


def table_of(splitter):
    """The splitter's table, a pair of pairs of rows."""
    need_splitter(splitter)
    low, high = splitter
    return ((even_part(low), later(odd_part(low), 1)), (even_part(high), later(odd_part(high), 1)))


def splitter_with(table):
    """The splitter that has this table."""
    need_table(table)
    (low_even, low_odd), (high_even, high_odd) = table
    return (woven(low_even, later(low_odd, -1)), woven(high_even, later(high_odd, -1)))


def determinant_of(splitter):
    """The determinant of the splitter's table."""
    need_splitter(splitter)
    return table_determinant(table_of(splitter))


def table_determinant(table):
    """The determinant of a table."""
    (upper_left, upper_right), (lower_left, lower_right) = table
    return added(multiplied(upper_left, lower_right), opposite(multiplied(upper_right, lower_left)))


def delay_of(splitter, joiner):
    """The d by which the joiner gives all rows back late; None if there is none."""
    need_splitter(splitter)
    need_joiner(joiner)
    # Half of this much is made of x(z), and half of the other of x(-z), which must not come through.
    straight = added(multiplied(joiner[0], splitter[0]), multiplied(joiner[1], splitter[1]))
    mirrored = added(multiplied(joiner[0], alternated(splitter[0])), multiplied(joiner[1], alternated(splitter[1])))
    if mirrored != NOUGHT_ROW or straight[1] != ((2, 1),):
        return None
    return straight[0]


def table_between(splitter, other):
    """The table that leads the channels by the splitter to those by the other one, for all rows.

    None if there is none, or if the determinant of the first splitter is nought.
    """
    need_splitter(splitter)
    need_splitter(other)
    determinant = determinant_of(splitter)
    (upper_left, upper_right), (lower_left, lower_right) = table_of(splitter)
    # The told table times the first splitter's is the other one's: the first one's is undone from the right.
    turned = ((lower_right, opposite(upper_right)), (opposite(lower_left), upper_left))
    found = []
    for row in table_of(other):
        for column in (0, 1):
            above = multiplied(row[0], turned[0][column])
            below = multiplied(row[1], turned[1][column])
            found.append(quotient(added(above, below), determinant))
    if None in found:
        return None
    return ((found[0], found[1]), (found[2], found[3]))
