"""Ladders: rows of simple steps, each of which changes one channel by the other one."""

from bandsplits.errors import InvalidLadder
from bandsplits.losses import joiner_of, word_of
from bandsplits.ratios import ONE, ZERO, is_fraction, is_whole, minus, over
from bandsplits.rows import (
    NOUGHT_ROW, UNIT_ROW, every_second, is_row, moved, need_row, opposite, row_difference, row_division, row_quotient,
    row_with_parts, scaled, sum_of_products,
)
from bandsplits.splitters import is_pair, need_channels, need_splitter, splitter_with, table_of
from bandsplits.tables import table_determinant

LOW = "low"
HIGH = "high"


def is_ladder(value):
    """Whether a value, whatever it is, is a ladder."""
    if not is_pair(value) or not isinstance(value[0], tuple) or not is_pair(value[1]):
        return False
    steps, scale = value
    return all([is_step(step) for step in steps]) and is_factor(scale[0]) and is_factor(scale[1])


def is_step(value):
    """Whether a value, whatever it is, is a step of a ladder."""
    if not is_pair(value) or not isinstance(value[0], str):
        return False
    return value[0] in (LOW, HIGH) and is_row(value[1])


def is_factor(value):
    """Whether a value, whatever it is, is a pair of a fraction other than 0 and a whole number."""
    return is_pair(value) and is_fraction(value[0]) and value[0] != ZERO and is_whole(value[1])


def need_ladder(ladder):
    """Raise InvalidLadder for what is no ladder."""
    if not is_ladder(ladder):
        raise InvalidLadder(ladder)


def after_step(step, low, high):
    """What a step makes of a pair of rows: channels, or a column of a table."""
    way, row = step
    if way == LOW:
        return (sum_of_products(((UNIT_ROW, low), (row, high))), high)
    return (low, sum_of_products(((UNIT_ROW, high), (row, low))))


def opposite_step(step):
    """The step that takes back what the step does."""
    return (step[0], opposite(step[1]))


def table_after(table, step):
    """The table that leads as the first one does, and then takes the step."""
    (upper_left, upper_right), (lower_left, lower_right) = table
    upper_left, lower_left = after_step(step, upper_left, lower_left)
    upper_right, lower_right = after_step(step, upper_right, lower_right)
    return ((upper_left, upper_right), (lower_left, lower_right))


def first_table(scale):
    """The table of the ladder without steps that has this scale."""
    (low_factor, low_places), (high_factor, high_places) = scale
    return (((low_places, (low_factor,)), NOUGHT_ROW), (NOUGHT_ROW, (high_places + 1, (high_factor,))))


def splitter_of(ladder):
    """The ladder's splitter."""
    need_ladder(ladder)
    steps, scale = ladder
    table = first_table(scale)
    for step in steps:
        table = table_after(table, step)
    return splitter_with(table)


def climbed(ladder, row):
    """The channels to which the ladder leads the row."""
    need_ladder(ladder)
    need_row(row)
    steps, ((low_factor, low_places), (high_factor, high_places)) = ladder
    low = moved(scaled(every_second(row, 0), low_factor), low_places)
    high = moved(scaled(every_second(row, 1), high_factor), high_places + 1)
    for step in steps:
        low, high = after_step(step, low, high)
    return (low, high)


def climbed_back(ladder, channels):
    """The row with these channels."""
    need_ladder(ladder)
    need_channels(channels)
    steps, ((low_factor, low_places), (high_factor, high_places)) = ladder
    low, high = channels
    for step in reversed(steps):
        low, high = after_step(opposite_step(step), low, high)
    even = moved(scaled(low, over(ONE, low_factor)), -low_places)
    odd = moved(scaled(high, over(ONE, high_factor)), -high_places - 1)
    return row_with_parts(even, odd)


def undoing_joiner(ladder):
    """The joiner that gives back all rows that the ladder leads to channels."""
    return joiner_of(splitter_of(ladder))


def ladder_of(splitter):
    """Any ladder of the splitter; None if there is none."""
    need_splitter(splitter)
    table = table_of(splitter)
    if word_of(table_determinant(table)) != "nothing":
        return None
    steps = []
    # The last step of the ladder is found first.
    while table[1][0] != NOUGHT_ROW:
        step = shortening_step(table[0][0], table[1][0])
        steps.append(step)
        table = table_after(table, opposite_step(step))
    (low, across), (_, high) = table
    # What is left of the first column is one power, as it divides the determinant; so is the other corner.
    if across != NOUGHT_ROW:
        steps.append((LOW, row_quotient(across, high)))
    return (tuple(steps[::-1]), ((low[1][0], low[0]), (high[1][0], high[0] - 1)))


def shortening_step(upper, lower):
    """The step by which one of two rows, the lower one not nought, comes from a shorter one."""
    if upper == NOUGHT_ROW:
        # The upper one is made the same as the lower one, which the next step takes away.
        return (LOW, (0, (minus(ONE),)))
    if len(upper[1]) > len(lower[1]):
        return (LOW, row_division(upper, lower)[0])
    return (HIGH, row_division(lower, upper)[0])


def step_to(splitter, other):
    """Any step that leads from the channels by the splitter to those by the other one, for all rows; None."""
    need_splitter(splitter)
    need_splitter(other)
    low, high = splitter
    if high == other[1]:
        return step_by(LOW, row_difference(other[0], low), high)
    if low == other[0]:
        return step_by(HIGH, row_difference(other[1], high), low)
    return None


def step_by(way, change, row):
    """The step that adds the change, its own row spread out times the told one; None if there is none."""
    if change == NOUGHT_ROW:
        return (way, NOUGHT_ROW)
    spread = row_quotient(change, row)
    if spread is None or every_second(spread, 1) != NOUGHT_ROW:
        return None
    return (way, every_second(spread, 0))
