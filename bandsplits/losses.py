"""What a splitter loses: rows, and endless rows, whose channels are 0 everywhere."""

from bandsplits.errors import InvalidEndless
from bandsplits.ratios import ONE, ZERO, need_whole_between, over, over_one_bottom, over_whole
from bandsplits.recurrences import is_endless_row, number_from
from bandsplits.rows import (
    NOUGHT_ROW, UNIT_ROW, alternated, every_second, moved, opposite, row_from, row_product, row_quotient,
    row_with_parts, spread_out, sum_of_products,
)
from bandsplits.splitters import need_splitter, table_of
from bandsplits.tables import table_determinant


def loss_word(splitter):
    """What the splitter loses: `nothing`, `finite` or `endless`."""
    need_splitter(splitter)
    return word_of(table_determinant(table_of(splitter)))


def word_of(determinant):
    """The loss word of splitters with this determinant."""
    if determinant == NOUGHT_ROW:
        return "finite"
    return "nothing" if len(determinant[1]) == 1 else "endless"


def joiner_of(splitter):
    """The joiner that gives all rows back, late by 0; None if something is lost."""
    need_splitter(splitter)
    table = table_of(splitter)
    determinant = table_determinant(table)
    if word_of(determinant) != "nothing":
        return None
    (low_even, low_odd), (high_even, high_odd) = table
    low = row_with_parts(high_odd, opposite(high_even))
    high = row_with_parts(opposite(low_odd), low_even)
    undoing = (-2 * determinant[0], (over(ONE, determinant[1][0]),))
    return (row_product(low, undoing), row_product(high, undoing))


def lost_row(splitter):
    """Any row but the nought row whose channels are nought; None if there is none."""
    need_splitter(splitter)
    table = table_of(splitter)
    if table_determinant(table) != NOUGHT_ROW:
        return None
    even, odd = lost_parts(table)
    return row_with_parts(even, odd)


def lost_parts(table):
    """Both parts of a row other than nought that a table with a nought determinant leads to noughts."""
    for left, right in table:
        if left != NOUGHT_ROW or right != NOUGHT_ROW:
            return (right, opposite(left))
    return (UNIT_ROW, NOUGHT_ROW)


def is_endless(value):
    """Whether a value, whatever it is, is an endless row."""
    return is_endless_row(value)


def need_endless(endless):
    """Raise InvalidEndless for what is no endless row."""
    if not is_endless_row(endless):
        raise InvalidEndless(endless)


def value_at(endless, place):
    """The endless row's number at the place."""
    need_endless(endless)
    need_whole_between(place, -1000, 1000)
    return number_from(endless, [1], place)


def channel_values(splitter, endless, place):
    """The pair of the numbers that both channels of the endless row have at this place of theirs."""
    need_splitter(splitter)
    need_endless(endless)
    need_whole_between(place, -1000, 1000)
    low, high = splitter
    return (made_at(low, endless, 2 * place), made_at(high, endless, 2 * place))


def made_at(row, endless, place):
    """The number at the place of the product of a row and an endless row."""
    numbers, bottom = over_one_bottom(row[1])
    last = row[0] + len(numbers) - 1
    return over_whole(number_from(endless, numbers[::-1], place - last), bottom)


def lost_endless(splitter):
    """Any endless row that is not 0 everywhere and whose channels are; None if there is none."""
    need_splitter(splitter)
    table = table_of(splitter)
    determinant = table_determinant(table)
    word = word_of(determinant)
    if word == "nothing":
        return None
    if word == "finite":
        return lost_powers(near_nought(lost_parts(table)))
    return lost_by(determinant, near_nought(parts_for(table, determinant)))


def near_nought(parts):
    """Both rows, not both nought, later by the same number of places, so that they begin at place 0."""
    first = min([row[0] for row in parts if row != NOUGHT_ROW])
    return tuple([moved(row, -first) for row in parts])


def lost_powers(parts):
    """The endless row made of both parts, not both nought, by the endless row with BASE ** n at each place n."""
    base = 1
    # Each part makes nought of finitely many such endless rows.
    while True:
        rule = ((1, 1), (-base, 1))
        values = [made_at(row, (rule, (ONE,)), 0) for row in parts]
        if values != [ZERO, ZERO]:
            return ((ONE, ZERO, (-base, 1)), tuple(values))
        base = base + 1


def parts_for(table, determinant):
    """The parts of a row that the table leads to a nought row and the determinant, not both divided by this."""
    (upper_left, upper_right), (lower_left, lower_right) = table
    # If it divided all four rows, its square would divide it.
    if row_quotient(lower_left, determinant) is None or row_quotient(lower_right, determinant) is None:
        return (lower_right, opposite(lower_left))
    return (opposite(upper_right), upper_left)


def lost_by(determinant, parts):
    """The endless row made of both parts by an endless row of which the determinant makes nought."""
    rule = determinant[1]
    many = len(rule) - 1
    # All endless rows of which the determinant makes nought are made of this one by rows.
    source = (rule, tuple([ZERO] * (many - 1) + [ONE]))
    values = [made_at(row, source, place) for place in range(many) for row in parts]
    return (spread_out(determinant)[1], tuple(values))


def is_lost_endless(splitter, endless):
    """Whether the endless row is not 0 everywhere, and both channels of it are."""
    rule, values = endless
    source, series = row_from(0, rule), row_from(0, values)
    if series == NOUGHT_ROW:
        return False
    # The numbers from place 0 on are those of a polynomial over the rule, and of one over a rule of even places alone.
    start = row_product(source, series)
    top = row_product(row_from(start[0], start[1][:len(values) - start[0]]), alternated(source))
    even_rule = every_second(row_product(source, alternated(source)), 0)
    even, odd = every_second(top, 0), every_second(top, 1)
    # Of rows that the rule makes 0 such polynomials stand for those that are 0 everywhere which it divides.
    return all([
        row_quotient(sum_of_products(((left, even), (right, odd))), even_rule) is not None
        for left, right in table_of(splitter)
    ])
