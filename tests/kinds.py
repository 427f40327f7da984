"""Splitters of each kind, to ask the whole program about."""

from fractions import Fraction

from bandsplits.turns import splitter_by_turns
from samples import (
    GAPS_ROW, HAAR_PAIR, HUGE, NIL, NOUGHT, ONE, PLAIN, SUMS_ROW, UNIT, Maker, product, row_of_numbers, shifted,
    splitter_from, steps_table, times,
)


def splitters(seed, many):
    """Splitters of each kind: with each loss word, keepers and others."""
    maker = Maker(seed)
    draw = maker.random.randint
    for _ in range(many):
        yield maker.pair(most=4, reach=3)
        row = maker.row(most=3)
        yield (product(row, SUMS_ROW), product(row, GAPS_ROW))
        yield (row, times(Fraction(draw(-2, 2)), shifted(row, 2 * draw(-2, 2))))
        steps = [(maker.random.choice(("low", "high")), maker.row(most=2, reach=2)) for _ in range(3)]
        yield splitter_from(steps_table(steps))
        yield splitter_by_turns((draw(-3, 3), ((1, draw(1, 9)), (2, 1 + 2 * draw(0, 4))), PLAIN))
    yield from [
        HAAR_PAIR, ((0, (ONE, NIL, ONE)), (1, (ONE,))), (NOUGHT, NOUGHT), (UNIT, NOUGHT), (NOUGHT, UNIT),
        (SUMS_ROW, SUMS_ROW), (UNIT, (1, (ONE,))), (UNIT, UNIT), ((-1000, (ONE,)), (999, ((-1, HUGE),))),
        ((0, (ONE, NIL, NIL, NIL, ONE)), (7, (ONE,))), (row_of_numbers(0, 1, 0, 2), row_of_numbers(1, 2, 0, 1)),
        (row_of_numbers(0, 3, 4), row_of_numbers(0, 4, 3)),
    ]
