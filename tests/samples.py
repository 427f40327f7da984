"""Rows worked out in another way than the package does, and values that are wrong."""

import random
from fractions import Fraction

NOUGHT = (0, ())
UNIT = (0, ((1, 1),))
ONE = (1, 1)
NIL = (0, 1)


def numbers_of(row):
    """The numbers of a row other than 0, by their places."""
    return {row[0] + at: Fraction(*number) for at, number in enumerate(row[1]) if number[0] != 0}


def row_with(numbers):
    """The row with these numbers, a dict by places."""
    kept = {place: Fraction(number) for place, number in numbers.items() if number != 0}
    if not kept:
        return NOUGHT
    first, last = min(kept), max(kept)
    filled = [kept.get(place, Fraction(0)) for place in range(first, last + 1)]
    return (first, tuple((number.numerator, number.denominator) for number in filled))


def row_by(rule, *rows):
    """The row with rule(place, numbers of each row ..) at each place that can matter."""
    dicts = [numbers_of(row) for row in rows]
    reach = 2 + 2 * max([abs(place) for numbers in dicts for place in numbers], default=0)
    lookups = [lambda place, numbers=numbers: numbers.get(place, Fraction(0)) for numbers in dicts]
    return row_with({place: rule(place, *lookups) for place in range(-reach, reach + 1)})


def product(row, other):
    out = {}
    for place, number in numbers_of(row).items():
        for by, more in numbers_of(other).items():
            out[place + by] = out.get(place + by, 0) + number * more
    return row_with(out)


def total(*rows):
    out = {}
    for row in rows:
        for place, number in numbers_of(row).items():
            out[place] = out.get(place, 0) + number
    return row_with(out)


def times(factor, row):
    return row_with({place: factor * number for place, number in numbers_of(row).items()})


def shifted(row, places):
    return row_with({place + places: number for place, number in numbers_of(row).items()})


def spread(row):
    return row_with({2 * place: number for place, number in numbers_of(row).items()})


def channel(filter_row, row):
    """Every second number of the filtered row."""
    return row_by(lambda place, x: x(2 * place), product(filter_row, row))


def table(splitter):
    """The table as [10] tells it."""
    def line(row):
        return (row_by(lambda place, x: x(2 * place), row), row_by(lambda place, x: x(2 * place - 1), row))
    return (line(splitter[0]), line(splitter[1]))


def led(by_table, pair):
    """Where a table leads a pair of rows."""
    return tuple(total(product(line[0], pair[0]), product(line[1], pair[1])) for line in by_table)


def table_product(first, second):
    """The table that leads as the second one does, and then the first."""
    columns = [led(first, (second[0][at], second[1][at])) for at in (0, 1)]
    return ((columns[0][0], columns[1][0]), (columns[0][1], columns[1][1]))


class Maker:
    """Rows, splitters and tables, always the same ones for the same seed."""

    def __init__(self, seed):
        self.random = random.Random(seed)

    def row(self, most=5, reach=7, noughts=True):
        many = self.random.randint(0 if noughts else 1, most)
        start = self.random.randint(-reach, reach)
        made = row_with({
            start + at: Fraction(self.random.randint(-4, 4), self.random.randint(1, 4)) for at in range(many)
        })
        return self.row(most, reach, noughts) if made == NOUGHT and not noughts else made

    def pair(self, **kinds):
        return (self.row(**kinds), self.row(**kinds))

    def table(self, **kinds):
        return (self.pair(**kinds), self.pair(**kinds))


class Touchy:
    """A value that may not be compared, measured or tested."""

    def __eq__(self, other):
        raise RuntimeError("compared")

    def __len__(self):
        raise RuntimeError("measured")

    def __bool__(self):
        raise RuntimeError("tested")


def nested(deep):
    out = ()
    for _ in range(deep):
        out = (out,)
    return out


HUGE = 10 ** 399

# What is neither a whole number nor a tuple that could be something.
STRANGE = [
    None, True, False, "", "ab", "0", b"", b"ab", [], [0, ()], {}, {0: ()}, set(), {0, 1}, frozenset(), range(2),
    object, object(), len, lambda: 0, Touchy(), ValueError("x"), nested(14), (), (0,), (0, 0, 0), ((), ()),
]

WRONG_WHOLES = STRANGE + [(1,), (1, 1), "1", ONE]

WRONG_FRACTIONS = STRANGE + [
    0, 1, -1, (2, 4), (-2, 4), (0, 2), (0, 5), (0, 0), (1, 0), (1, -1), (0, -1), (-1, -2), (HUGE, HUGE), (3, 3),
    (True, 1), (1, True), (False, 1), (1, None), (None, 1), ("1", 1), (1, 1, 1), (1,), [1, 1], ((1, 1), (1, 1)),
    (1, (1, 1)), UNIT,
]

WRONG_ROWS = STRANGE + [
    0, 1, -1, HUGE, ONE, (1, ()), (-1, ()), (HUGE, ()), (True, ()), (False, ()), (None, ()), ("0", ()), (0, []),
    (0, None), (0, "ab"), (0, {}), (0, ()) + ((),), [0, ((1, 1),)], (0, [(1, 1)]), (True, ((1, 1),)),
    (False, ((1, 1),)), (None, ((1, 1),)), ("0", ((1, 1),)), ((0,), ((1, 1),)), (0, 1), (0, (1, 1)), (0, (1,)),
    (0, ((0, 1),)), (0, ((0, 1), (1, 1))), (0, ((1, 1), (0, 1))), (0, ((0, 1), (0, 1))),
    (0, ((0, 1), (1, 1), (0, 1))), (0, ((1, 1), (0, 2), (1, 1))), (0, ((1, 1),), 0), (((1, 1),), 0), ((1, 1),),
    (UNIT, UNIT), (Touchy(), Touchy()), (0, Touchy()), (0, (Touchy(),)), (Touchy(), ((1, 1),)),
] + [(0, ((1, 1), wrong, (1, 1))) for wrong in WRONG_FRACTIONS]

WRONG_PAIRS = STRANGE + [
    UNIT, NOUGHT, (UNIT,), (UNIT, UNIT, UNIT), [UNIT, UNIT], ((UNIT, UNIT),), ((UNIT, UNIT), (UNIT, UNIT)),
    (UNIT, [0, ()]), (0, UNIT), (UNIT, 0), (None, None), {0: UNIT, 1: UNIT},
] + [(wrong, UNIT) for wrong in WRONG_ROWS] + [(NOUGHT, wrong) for wrong in WRONG_ROWS]

RIGHT_PAIR = (UNIT, NOUGHT)

WRONG_TABLES = STRANGE + [
    UNIT, RIGHT_PAIR, (RIGHT_PAIR,), (RIGHT_PAIR, RIGHT_PAIR, RIGHT_PAIR), [RIGHT_PAIR, RIGHT_PAIR],
    (RIGHT_PAIR, UNIT), (UNIT, RIGHT_PAIR), (RIGHT_PAIR, list(RIGHT_PAIR)), ((UNIT, UNIT, UNIT), RIGHT_PAIR),
] + [(wrong, RIGHT_PAIR) for wrong in WRONG_PAIRS] + [(RIGHT_PAIR, wrong) for wrong in WRONG_PAIRS]

SINGLES = ((1, 2),)

WRONG_ENDLESS = STRANGE + [
    UNIT, NOUGHT, ONE, (SINGLES, SINGLES), (SINGLES, ()), ((ONE, ONE), ()), ((ONE, ONE), (ONE, ONE)),
    ((ONE, ONE, ONE), (ONE,)), ((NIL, ONE), (ONE,)), ((ONE, NIL), (ONE,)), ((NIL, NIL), (NIL,)),
    ((NIL, ONE, ONE), (ONE, ONE)), ((ONE, ONE, NIL), (ONE, ONE)), ([ONE, ONE], (ONE,)), ((ONE, ONE), [ONE]),
    [(ONE, ONE), (ONE,)], ((ONE, ONE), (ONE,), ()), ((ONE, ONE), ONE), (ONE, (ONE,)), ((ONE, ONE), None),
    (None, (ONE,)), ((1, 1), (1,)), (Touchy(), Touchy()), ((Touchy(), Touchy()), (Touchy(),)),
] + [((ONE, wrong), (ONE,)) for wrong in WRONG_FRACTIONS] + [((ONE, ONE), (wrong,)) for wrong in WRONG_FRACTIONS] + [
    ((ONE, wrong, ONE), (ONE, NIL)) for wrong in WRONG_FRACTIONS
]

PLAIN = ((ONE, NIL), (NIL, ONE))

WRONG_DIRECTIONS = STRANGE + [
    (0, 0), (2, 2), (2, 0), (0, 2), (0, -1), (-1, 0), (-1, 2), (6, 9), (True, 1), (1, True), (1, None), ("1", 1),
    (1, 2, 3), (1,), [1, 2], ((1, 2),), 1, (HUGE, HUGE), (ONE, ONE), (Touchy(), 1),
]

WRONG_LASTS = STRANGE + [
    PLAIN[:1], PLAIN + PLAIN[:1], list(PLAIN), ([ONE, NIL], (NIL, ONE)), ((ONE, NIL), [NIL, ONE]),
    ((NIL, NIL), (NIL, NIL)), ((ONE, NIL), (NIL, NIL)), ((ONE, ONE), (ONE, ONE)), ((ONE, NIL), (NIL, (2, 1))),
    ((ONE, ONE), (NIL, ONE)), ((ONE, ONE), ((-1, 1), (2, 1))), ((ONE, (1, 2)), (NIL, ONE)), ((1, 0), (0, 1)),
    ((UNIT, NOUGHT), (NOUGHT, UNIT)), (ONE, ONE), ((ONE,), (NIL,)), ((ONE, NIL, NIL), (NIL, ONE, NIL)),
] + [((wrong, NIL), (NIL, ONE)) for wrong in WRONG_FRACTIONS] + [
    ((ONE, NIL), (wrong, ONE)) for wrong in WRONG_FRACTIONS
]

WRONG_TURNS = STRANGE + [
    (0, ()), (0, (), PLAIN, 0), [0, (), PLAIN], (0, [], PLAIN), (0, [(1, 2)], PLAIN), (0, (1, 2), PLAIN),
    (0, ((1, -1), (1, 1)), PLAIN), (0, ((1, 0), (0, 1)), PLAIN), (0, ((1, 2), (1, 3), (3, -1)), PLAIN),
    (0, None, PLAIN), ((), 0, PLAIN), (PLAIN, (), 0), (0, PLAIN, ()),
] + [(wrong, (), PLAIN) for wrong in WRONG_WHOLES] + [(0, ((1, 2), wrong), PLAIN) for wrong in WRONG_DIRECTIONS] + [
    (0, (wrong,), PLAIN) for wrong in WRONG_DIRECTIONS
] + [(0, (), wrong) for wrong in WRONG_LASTS]

EVEN_SCALE = ((ONE, 0), (ONE, 0))

WRONG_STEPS = STRANGE + [
    ("low",), ("low", UNIT, UNIT), ["low", UNIT], ("Low", UNIT), ("", UNIT), ("lo", UNIT), ("low ", UNIT), ("up", UNIT),
    (b"low", UNIT), (0, UNIT), (None, UNIT), (Touchy(), UNIT), (UNIT, "low"), (("low",), UNIT), "lo", ("low", "high"),
] + [("high", wrong) for wrong in WRONG_ROWS]

WRONG_FACTORS = STRANGE + [
    ONE, (ONE,), (ONE, 0, 0), [ONE, 0], (NIL, 0), (0, ONE), (ONE, ONE),
] + [(wrong, 0) for wrong in WRONG_FRACTIONS] + [(ONE, wrong) for wrong in WRONG_WHOLES]

WRONG_LADDERS = STRANGE + [
    (EVEN_SCALE, ()), ((), EVEN_SCALE, ()), [(), EVEN_SCALE], ([], EVEN_SCALE), (None, EVEN_SCALE), ("", EVEN_SCALE),
    ((), list(EVEN_SCALE)), ((), EVEN_SCALE[:1]), ((), EVEN_SCALE + EVEN_SCALE), ((), (1, 1)), ((), ONE), ((), 1),
    (("low", UNIT), EVEN_SCALE), (("low", "high"), EVEN_SCALE), ((("low", UNIT),), ()), UNIT, NOUGHT,
] + [((wrong,), EVEN_SCALE) for wrong in WRONG_STEPS] + [
    ((("low", UNIT), wrong), EVEN_SCALE) for wrong in WRONG_STEPS
] + [((), (wrong, (ONE, 0))) for wrong in WRONG_FACTORS] + [((), ((ONE, 0), wrong)) for wrong in WRONG_FACTORS]

# Right ladders, but not whole ones.
BROKEN_LADDERS = [
    ((), ((factor, 0), (ONE, 0))) for factor in ((1, 2), (2, 1), (-1, 2), (-3, 1))
] + [((("low", UNIT),), ((ONE, 0), (factor, 0))) for factor in ((1, 2), (2, 1), (-1, 3), (-2, 1))]

# Right rows, but with a number that is not whole.
BROKEN_ROWS = [(0, ((1, 2),)), (3, (ONE, (1, 3), ONE)), (-5, (ONE, ONE, (-7, 2))), (0, ((2, 3), ONE))]


def pair_of(number):
    """A fraction as the package tells it."""
    kept = Fraction(number)
    return (kept.numerator, kept.denominator)


def row_of_numbers(start, *numbers):
    """The row with these numbers from the place on."""
    return row_with({start + at: number for at, number in enumerate(numbers)})


def energy(row):
    return sum(number * number for number in numbers_of(row).values())


def share_of(splitter, row):
    """The energy of both channels over that of the row."""
    return sum(energy(channel(filter_row, row)) for filter_row in splitter) / energy(row)


def size_by(row, cosine):
    """The size at t = cosine, by the numbers of the row's product with itself turned round."""
    numbers = numbers_of(row)
    before, this, out = Fraction(2), Fraction(cosine), Fraction(0)
    reach = max(numbers, default=0) - min(numbers, default=0)
    for apart in range(reach + 1):
        shared = sum((number * numbers.get(place + apart, 0) for place, number in numbers.items()), Fraction(0))
        if apart == 0:
            out += shared
        else:
            out += shared * this
            before, this = this, cosine * this - before
    return out


# Splitters with each loss word, and what they are told apart by.
SUMS_ROW, GAPS_ROW = (0, (ONE, ONE)), (0, (ONE, (-1, 1)))
HAAR_PAIR = (SUMS_ROW, GAPS_ROW)


def steps_table(steps):
    """The table of steps alone, the first one first."""
    out = ((UNIT, NOUGHT), (NOUGHT, UNIT))
    for way, row in steps:
        step = ((UNIT, row), (NOUGHT, UNIT)) if way == "low" else ((UNIT, NOUGHT), (row, UNIT))
        out = table_product(step, out)
    return out


def splitter_from(by_table):
    """The splitter with a table."""
    return tuple(total(spread(line[0]), shifted(spread(line[1]), -1)) for line in by_table)


def tree_of_depth(deep):
    """The tree with pairs so deep and all of its leaves there."""
    return None if deep == 0 else (tree_of_depth(deep - 1), tree_of_depth(deep - 1))


def leaning_tree(deep, at=0):
    """A tree with one leaf so deep, and the others beside the way to it."""
    out = None
    for _ in range(deep):
        out = (out, None) if at == 0 else (None, out)
    return out


def all_trees(deepest):
    """All trees not deeper than told."""
    if deepest == 0:
        return [None]
    shorter = all_trees(deepest - 1)
    return [None] + [(low, high) for low in shorter for high in shorter]


WRONG_TREES = [wrong for wrong in STRANGE if wrong is not None] + [
    (None,), (None, None, None), [None, None], ([None, None], None), (None, [None, None]), ((None,), None), (None, ()),
    (None, 0), (0, None), ("", None), (None, False), (None, (None, True)), ((None, None, None), None), UNIT, NOUGHT,
    {0: None, 1: None}, (Touchy(), None), (None, Touchy()), leaning_tree(5), leaning_tree(5, 1), leaning_tree(13),
    tree_of_depth(5), (None, ((None, (None, (None, None))), None, None)), ((leaning_tree(4), None), None),
]

WRONG_MASKS = WRONG_ROWS + [
    NOUGHT, UNIT, (0, ((5, 3),)), (1, (ONE, ONE)), (-1, (ONE, ONE)), (HUGE, (ONE, ONE)), (0, (ONE,) * 10),
    (0, (ONE,) + (NIL,) * 8 + (ONE,)), (0, (ONE,) * 11), (3, ((1, 2), ONE, (1, 2))),
]


def raised(action, *by_position, **by_name):
    """The error that a call raises; None if it returns."""
    try:
        action(*by_position, **by_name)
    except ValueError as error:
        return error
    return None
