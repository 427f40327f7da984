"""Points 23, 24 and 25: ladders, the ladder of each splitter that loses nothing, one step between splitters."""

import unittest
from fractions import Fraction

from bandsplits.ladders import (
    climbed, climbed_back, is_ladder, ladder_of, splitter_of, step_to, undoing_joiner,
)
from bandsplits.losses import joiner_of, loss_word
from bandsplits.splitters import delay_of, join, split
from samples import (
    EVEN_SCALE, GAPS_ROW, HAAR_PAIR, HUGE, NIL, NOUGHT, ONE, SUMS_ROW, UNIT, Maker, channel, led, pair_of,
    product, row_by, row_of_numbers, shifted, splitter_from, spread, steps_table, times, total,
)

NONE = (NOUGHT, NOUGHT)
THIN = ((0, (ONE, NIL, ONE)), (1, (ONE,)))
HALVES = (((1, 2), 0), ((-3, 1), 0))


def all_ladders(seed, many, most=6):
    maker = Maker(seed)
    draw = maker.random.randint
    for _ in range(many):
        steps = tuple((maker.random.choice(("low", "high")), maker.row(most=4, reach=4)) for _ in range(draw(0, most)))
        scale = tuple((pair_of(Fraction(draw(1, 5) * maker.random.choice((1, -1)), draw(1, 4))), draw(-5, 5)) for _ in "ab")
        yield (steps, scale)
    yield from [
        ((), EVEN_SCALE), ((), HALVES), ((), ((ONE, 1000), ((-1, HUGE), -1000))), ((("low", NOUGHT),), EVEN_SCALE),
        ((("high", (1000, (ONE,))), ("high", (-1000, ((1, 2),)))), EVEN_SCALE),
    ]


def walked(ladder, row):
    """The channels, step by step, as [23] tells them."""
    steps, ((low_factor, low_places), (high_factor, high_places)) = ladder
    low = shifted(times(Fraction(*low_factor), row_by(lambda k, x: x(2 * k), row)), low_places)
    high = shifted(times(Fraction(*high_factor), row_by(lambda k, x: x(2 * k + 1), row)), high_places + 1)
    for way, step in steps:
        if way == "low":
            low = total(low, product(step, high))
        else:
            high = total(high, product(step, low))
    return (low, high)


class Climbing(unittest.TestCase):
    def test_step_by_step(self):
        maker = Maker(101)
        for ladder in all_ladders(102, 60):
            row = maker.row()
            with self.subTest(ladder=ladder, row=row):
                channels = climbed(ladder, row)
                self.assertEqual(channels, walked(ladder, row))
                self.assertEqual(channels, climbed(row=row, ladder=ladder))
                self.assertEqual(climbed_back(ladder, channels), row)
                self.assertEqual(climbed_back(channels=channels, ladder=ladder), row)

    def test_each_pair_of_channels_comes_up(self):
        maker = Maker(103)
        for ladder in all_ladders(104, 40):
            channels = maker.pair()
            with self.subTest(ladder=ladder, channels=channels):
                self.assertEqual(climbed(ladder, climbed_back(ladder, channels)), channels)

    def test_without_steps(self):
        # The high channel of z is z: its filter has 1 at place 1, as 2 * 1 is 1 + 1.
        self.assertEqual(splitter_of(((), EVEN_SCALE)), (UNIT, (1, (ONE,))))
        self.assertEqual(splitter_of(((), HALVES)), ((0, ((1, 2),)), (1, ((-3, 1),))))
        self.assertEqual(splitter_of(((), ((ONE, 2), (ONE, -1)))), ((4, (ONE,)), (-1, (ONE,))))
        self.assertEqual(
            climbed(((), HALVES), row_of_numbers(0, 1, 2, 3)),
            (row_of_numbers(0, Fraction(1, 2), Fraction(3, 2)), (1, ((-6, 1),))),
        )

    def test_the_nought_row(self):
        for ladder in all_ladders(105, 10):
            self.assertEqual(climbed(ladder, NOUGHT), NONE)
            self.assertEqual(climbed_back(ladder, NONE), NOUGHT)

    def test_what_is_one(self):
        for right in all_ladders(106, 20):
            self.assertIs(is_ladder(right), True)
            self.assertIs(is_ladder(value=right), True)


class SplittersOfLadders(unittest.TestCase):
    def test_the_channels_are_the_ladders(self):
        maker = Maker(107)
        for ladder in all_ladders(108, 60):
            splitter = splitter_of(ladder)
            with self.subTest(ladder=ladder):
                self.assertEqual(splitter, splitter_of(ladder=ladder))
                # What is so for the rows 1 and z is so for all rows.
                for row in (UNIT, (1, (ONE,)), maker.row()):
                    self.assertEqual(tuple(channel(line, row) for line in splitter), walked(ladder, row))

    def test_it_loses_nothing(self):
        maker = Maker(109)
        for ladder in all_ladders(110, 40):
            splitter, joiner = splitter_of(ladder), undoing_joiner(ladder)
            with self.subTest(ladder=ladder):
                self.assertEqual(loss_word(splitter), "nothing")
                self.assertEqual(joiner, joiner_of(splitter))
                self.assertEqual(joiner, undoing_joiner(ladder=ladder))
                self.assertEqual(delay_of(splitter, joiner), 0)
                row = maker.row()
                self.assertEqual(join(joiner, climbed(ladder, row)), row)

    def test_a_step_more_that_changes_nothing(self):
        step = ("low", row_of_numbers(-1, 2, 3))
        more = (step, ("low", times(-1, step[1])), ("high", NOUGHT))
        self.assertEqual(splitter_of((more, EVEN_SCALE)), splitter_of(((), EVEN_SCALE)))


class LaddersOfSplitters(unittest.TestCase):
    def check_found(self, splitter):
        found = ladder_of(splitter)
        self.assertIs(is_ladder(found), True)
        self.assertEqual(splitter_of(found), splitter)
        self.assertEqual(splitter_of(ladder_of(splitter=splitter)), splitter)

    def test_each_splitter_that_loses_nothing(self):
        for ladder in all_ladders(111, 80, 8):
            with self.subTest(ladder=ladder):
                self.check_found(splitter_of(ladder))

    def test_known_splitters(self):
        one, late = UNIT, (1, (ONE,))
        for splitter in (
            HAAR_PAIR, HAAR_PAIR[::-1], (one, late), (late, one), (late, (2, (ONE,))), ((3, ((2, 3),)), (-1000, ((-1, HUGE),))),
            # Of the first column of the table the upper place is 0, or the lower one.
            (late, row_of_numbers(0, 1, 5, 0, 7)), (row_of_numbers(0, 1, 5, 0, 7), late), (late, row_of_numbers(4, 1, 0)),
            (row_of_numbers(-1, 3, 1, 2), late),
            splitter_from(((NOUGHT, shifted(UNIT, 3)), (times(2, UNIT), row_of_numbers(-2, 1, 2, 3)))),
            (shifted(SUMS_ROW, 999), shifted(GAPS_ROW, -999)),
        ):
            with self.subTest(splitter=splitter):
                self.check_found(splitter)

    def test_none_where_something_is_lost(self):
        for splitter in (THIN, NONE, (SUMS_ROW, SUMS_ROW), (UNIT, NOUGHT), (UNIT, (2, (ONE,))), (UNIT, (1, (ONE, NIL, ONE)))):
            with self.subTest(splitter=splitter):
                self.assertIsNone(ladder_of(splitter))

    def test_some_or_none_as_the_loss_word_tells(self):
        maker = Maker(112)
        for _ in range(150):
            splitter = maker.pair(most=3, reach=3)
            self.assertIs(ladder_of(splitter) is None, loss_word(splitter) != "nothing")

    def test_long_rows(self):
        maker = Maker(113)
        steps = [("high" if at % 2 else "low", row_of_numbers(-1, maker.random.randint(1, 99), maker.random.randint(-99, -1)))
                 for at in range(11)]
        splitter = splitter_from([(line[0], shifted(line[1], 1)) for line in steps_table(steps)])
        self.assertEqual(max(len(row[1]) for row in splitter), 23)
        self.check_found(splitter)


class Steps(unittest.TestCase):
    def test_one_step_to_another(self):
        maker = Maker(114)
        for _ in range(100):
            splitter, row = maker.pair(), maker.row(most=4, noughts=False)
            if NOUGHT in splitter:
                continue
            low, high = splitter
            for way, other in (
                ("low", (total(low, product(spread(row), high)), high)),
                ("high", (low, total(high, product(spread(row), low)))),
            ):
                with self.subTest(splitter=splitter, way=way, row=row):
                    self.assertEqual(step_to(splitter, other), (way, row))
                    self.assertEqual(step_to(other=other, splitter=splitter), (way, row))
                    self.assertEqual(step_to(other, splitter), (way, times(-1, row)))
                    more = maker.row()
                    step = ((UNIT, row), (NOUGHT, UNIT)) if way == "low" else ((UNIT, NOUGHT), (row, UNIT))
                    self.assertEqual(split(other, more), led(step, split(splitter, more)))

    def test_the_same(self):
        maker = Maker(115)
        for splitter in [maker.pair() for _ in range(20)] + [NONE, (UNIT, NOUGHT), (NOUGHT, UNIT), THIN, (UNIT, UNIT)]:
            self.assertEqual(step_to(splitter, splitter), ("low", NOUGHT))

    def test_none(self):
        one, two = UNIT, (0, ((2, 1),))
        for splitter, other in (
            (HAAR_PAIR, HAAR_PAIR[::-1]), ((one, two), (two, one)),
            # Not a multiple, or one by a row that is not spread out.
            ((one, SUMS_ROW), (two, SUMS_ROW)), ((one, two), ((0, (ONE, ONE)), two)), ((one, NOUGHT), (two, NOUGHT)),
            ((NOUGHT, one), (NOUGHT, two)), ((NOUGHT, NOUGHT), (one, NOUGHT)), ((NOUGHT, NOUGHT), (NOUGHT, one)),
            ((SUMS_ROW, GAPS_ROW), (SUMS_ROW, total(GAPS_ROW, product((1, (ONE,)), SUMS_ROW)))),
        ):
            with self.subTest(splitter=splitter, other=other):
                self.assertIsNone(step_to(splitter, other))

    def test_splitters_that_lose_something(self):
        self.assertEqual(step_to((UNIT, UNIT), (UNIT, (0, ((3, 1),)))), ("high", (0, ((2, 1),))))
        self.assertEqual(step_to((NOUGHT, UNIT), ((4, (ONE,)), UNIT)), ("low", (2, (ONE,))))
        self.assertEqual(step_to(THIN, (THIN[0], total(THIN[1], THIN[0]))), ("high", UNIT))

    def test_all_pairs(self):
        rows = [NOUGHT, UNIT, (0, ((-1, 1),)), (1, (ONE,)), SUMS_ROW, GAPS_ROW, (2, (ONE,)), (0, (ONE, NIL, ONE))]
        pairs = [(low, high) for low in rows for high in rows]
        found = 0
        for splitter in pairs:
            for other in pairs:
                step = step_to(splitter, other)
                if step is None:
                    continue
                found += 1
                table = ((UNIT, step[1]), (NOUGHT, UNIT)) if step[0] == "low" else ((UNIT, NOUGHT), (step[1], UNIT))
                for row in (UNIT, (1, (ONE,))):
                    self.assertEqual(split(other, row), led(table, split(splitter, row)))
        self.assertGreater(found, 150)


if __name__ == "__main__":
    unittest.main()
