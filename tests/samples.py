"""Rows worked out in another way than the package does, and values that are wrong."""

import random
from fractions import Fraction

NOUGHT = (0, ())
UNIT = (0, ((1, 1),))
ONE = (1, 1)
NIL = (0, 1)


def numbers_of(row):
    """The numbers of a row other than 0, by their places."""
    return {row[0] + at: Fraction(*number) for at, number in enumerate(row[1]) if number[0] != 0}


def row_with(numbers):
    """The row with these numbers, a dict by places."""
    kept = {place: Fraction(number) for place, number in numbers.items() if number != 0}
    if not kept:
        return NOUGHT
    first, last = min(kept), max(kept)
    filled = [kept.get(place, Fraction(0)) for place in range(first, last + 1)]
    return (first, tuple((number.numerator, number.denominator) for number in filled))


def row_by(rule, *rows):
    """The row with rule(place, numbers of each row ..) at each place that can matter."""
    dicts = [numbers_of(row) for row in rows]
    reach = 2 + 2 * max([abs(place) for numbers in dicts for place in numbers], default=0)
    lookups = [lambda place, numbers=numbers: numbers.get(place, Fraction(0)) for numbers in dicts]
    return row_with({place: rule(place, *lookups) for place in range(-reach, reach + 1)})


def product(row, other):
    out = {}
    for place, number in numbers_of(row).items():
        for by, more in numbers_of(other).items():
            out[place + by] = out.get(place + by, 0) + number * more
    return row_with(out)


def total(*rows):
    out = {}
    for row in rows:
        for place, number in numbers_of(row).items():
            out[place] = out.get(place, 0) + number
    return row_with(out)


def times(factor, row):
    return row_with({place: factor * number for place, number in numbers_of(row).items()})


def shifted(row, places):
    return row_with({place + places: number for place, number in numbers_of(row).items()})


def spread(row):
    return row_with({2 * place: number for place, number in numbers_of(row).items()})


def channel(filter_row, row):
    """Every second number of the filtered row."""
    return row_by(lambda place, x: x(2 * place), product(filter_row, row))


def table(splitter):
    """The table as [10] tells it."""
    def line(row):
        return (row_by(lambda place, x: x(2 * place), row), row_by(lambda place, x: x(2 * place - 1), row))
    return (line(splitter[0]), line(splitter[1]))


def led(by_table, pair):
    """Where a table leads a pair of rows."""
    return tuple(total(product(line[0], pair[0]), product(line[1], pair[1])) for line in by_table)


def table_product(first, second):
    """The table that leads as the second one does, and then the first."""
    columns = [led(first, (second[0][at], second[1][at])) for at in (0, 1)]
    return ((columns[0][0], columns[1][0]), (columns[0][1], columns[1][1]))


class Maker:
    """Rows, splitters and tables, always the same ones for the same seed."""

    def __init__(self, seed):
        self.random = random.Random(seed)

    def row(self, most=5, reach=7, noughts=True):
        many = self.random.randint(0 if noughts else 1, most)
        start = self.random.randint(-reach, reach)
        made = row_with({
            start + at: Fraction(self.random.randint(-4, 4), self.random.randint(1, 4)) for at in range(many)
        })
        return self.row(most, reach, noughts) if made == NOUGHT and not noughts else made

    def pair(self, **kinds):
        return (self.row(**kinds), self.row(**kinds))

    def table(self, **kinds):
        return (self.pair(**kinds), self.pair(**kinds))


class Touchy:
    """A value that may not be compared, measured or tested."""

    def __eq__(self, other):
        raise RuntimeError("compared")

    def __len__(self):
        raise RuntimeError("measured")

    def __bool__(self):
        raise RuntimeError("tested")


def nested(deep):
    out = ()
    for _ in range(deep):
        out = (out,)
    return out


HUGE = 10 ** 399

# What is neither a whole number nor a tuple that could be something.
STRANGE = [
    None, True, False, "", "ab", "0", b"", b"ab", [], [0, ()], {}, {0: ()}, set(), {0, 1}, frozenset(), range(2),
    object, object(), len, lambda: 0, Touchy(), ValueError("x"), nested(14), (), (0,), (0, 0, 0), ((), ()),
]

WRONG_WHOLES = STRANGE + [(1,), (1, 1), "1", ONE]

WRONG_FRACTIONS = STRANGE + [
    0, 1, -1, (2, 4), (-2, 4), (0, 2), (0, 5), (0, 0), (1, 0), (1, -1), (0, -1), (-1, -2), (HUGE, HUGE), (3, 3),
    (True, 1), (1, True), (False, 1), (1, None), (None, 1), ("1", 1), (1, 1, 1), (1,), [1, 1], ((1, 1), (1, 1)),
    (1, (1, 1)), UNIT,
]

WRONG_ROWS = STRANGE + [
    0, 1, -1, HUGE, ONE, (1, ()), (-1, ()), (HUGE, ()), (True, ()), (False, ()), (None, ()), ("0", ()), (0, []),
    (0, None), (0, "ab"), (0, {}), (0, ()) + ((),), [0, ((1, 1),)], (0, [(1, 1)]), (True, ((1, 1),)),
    (False, ((1, 1),)), (None, ((1, 1),)), ("0", ((1, 1),)), ((0,), ((1, 1),)), (0, 1), (0, (1, 1)), (0, (1,)),
    (0, ((0, 1),)), (0, ((0, 1), (1, 1))), (0, ((1, 1), (0, 1))), (0, ((0, 1), (0, 1))),
    (0, ((0, 1), (1, 1), (0, 1))), (0, ((1, 1), (0, 2), (1, 1))), (0, ((1, 1),), 0), (((1, 1),), 0), ((1, 1),),
    (UNIT, UNIT), (Touchy(), Touchy()), (0, Touchy()), (0, (Touchy(),)), (Touchy(), ((1, 1),)),
] + [(0, ((1, 1), wrong, (1, 1))) for wrong in WRONG_FRACTIONS]

WRONG_PAIRS = STRANGE + [
    UNIT, NOUGHT, (UNIT,), (UNIT, UNIT, UNIT), [UNIT, UNIT], ((UNIT, UNIT),), ((UNIT, UNIT), (UNIT, UNIT)),
    (UNIT, [0, ()]), (0, UNIT), (UNIT, 0), (None, None), {0: UNIT, 1: UNIT},
] + [(wrong, UNIT) for wrong in WRONG_ROWS] + [(NOUGHT, wrong) for wrong in WRONG_ROWS]

RIGHT_PAIR = (UNIT, NOUGHT)

WRONG_TABLES = STRANGE + [
    UNIT, RIGHT_PAIR, (RIGHT_PAIR,), (RIGHT_PAIR, RIGHT_PAIR, RIGHT_PAIR), [RIGHT_PAIR, RIGHT_PAIR],
    (RIGHT_PAIR, UNIT), (UNIT, RIGHT_PAIR), (RIGHT_PAIR, list(RIGHT_PAIR)), ((UNIT, UNIT, UNIT), RIGHT_PAIR),
] + [(wrong, RIGHT_PAIR) for wrong in WRONG_PAIRS] + [(RIGHT_PAIR, wrong) for wrong in WRONG_PAIRS]
