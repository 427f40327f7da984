"""Points 5, 9 and 10: splitters, joiners, tables, determinants, rows given back late."""

import unittest

from bandsplits.rows import is_row
from bandsplits.splitters import (
    delay_of, determinant_of, join, split, splitter_with, table_between, table_of,
)
from samples import (
    NIL, NOUGHT, ONE, UNIT, Maker, channel, led, product, row_by, shifted, spread, table, table_product, times, total,
)

SUMS, GAPS = (0, (ONE, ONE)), (0, (ONE, (-1, 1)))
HAAR = (SUMS, GAPS)
HAAR_BACK = ((-1, ((1, 2), (1, 2))), (-1, ((-1, 2), (1, 2))))
THIN = ((0, (ONE, NIL, ONE)), (1, (ONE,)))
NONE = (NOUGHT, NOUGHT)
IDENTITY = ((UNIT, NOUGHT), (NOUGHT, UNIT))
FAR_PAIR = ((998, (ONE, (1, 3))), (-999, ((2, 5), NIL, (-1, 1))))


def pairs(seed, many=40):
    maker = Maker(seed)
    return [HAAR, THIN, NONE, (UNIT, NOUGHT), (NOUGHT, GAPS), FAR_PAIR] + [maker.pair() for _ in range(many)]


def moved(pair, places):
    return (shifted(pair[0], places), shifted(pair[1], places))


def unmade(by_table):
    """The determinant of a table."""
    (a, b), (c, d) = by_table
    return total(product(a, d), times(-1, product(b, c)))


class SplittersTestCase(unittest.TestCase):
    def assert_pair(self, found, expected):
        self.assertEqual(found, expected)
        self.assertTrue(isinstance(found, tuple) and is_row(found[0]) and is_row(found[1]))

    def assert_table(self, found, expected):
        self.assertEqual(found, expected)
        self.assertIsInstance(found, tuple)
        for line, told in zip(found, expected):
            self.assert_pair(line, told)


class SplitAndJoin(SplittersTestCase):
    def test_split(self):
        maker = Maker(21)
        for splitter in pairs(22):
            for row in (NOUGHT, UNIT, (1, (ONE,)), maker.row(), maker.row()):
                with self.subTest(splitter=splitter, row=row):
                    expected = (channel(splitter[0], row), channel(splitter[1], row))
                    self.assert_pair(split(splitter, row), expected)
                    self.assert_pair(split(row=row, splitter=splitter), expected)

    def test_every_second_number_at_even_places(self):
        row = (-3, ((1, 1), (2, 1), (3, 1), (4, 1), (5, 1)))
        self.assert_pair(split((UNIT, (1, (ONE,))), row), ((-1, ((2, 1), (4, 1))), (-1, ((1, 1), (3, 1), (5, 1)))))
        self.assert_pair(split((NOUGHT, UNIT), row), (NOUGHT, (-1, ((2, 1), (4, 1)))))
        self.assert_pair(split(NONE, row), NONE)

    def test_join(self):
        for joiner, channels in zip(pairs(23), reversed(pairs(24))):
            with self.subTest(joiner=joiner, channels=channels):
                expected = total(
                    product(joiner[0], spread(channels[0])), product(joiner[1], spread(channels[1])),
                )
                self.assertEqual(join(joiner, channels), expected)
                self.assertEqual(join(channels=channels, joiner=joiner), expected)
                self.assertTrue(is_row(join(joiner, channels)))

    def test_join_with_noughts(self):
        self.assertEqual(join(NONE, HAAR), NOUGHT)
        self.assertEqual(join(HAAR, NONE), NOUGHT)
        self.assertEqual(join(HAAR, (NOUGHT, (-2, ((3, 1),)))), (-4, ((3, 1), (-3, 1))))
        self.assertEqual(join((NOUGHT, SUMS), HAAR), (0, (ONE, ONE, (-1, 1), (-1, 1))))
        self.assertEqual(join((UNIT, (-2, ((-1, 1),))), (UNIT, (1, (ONE,)))), NOUGHT)


class Tables(SplittersTestCase):
    def test_tables(self):
        for splitter in pairs(25):
            if splitter != FAR_PAIR:
                with self.subTest(splitter=splitter):
                    self.assert_table(table_of(splitter), table(splitter))
        self.assert_table(
            table_of(FAR_PAIR), (((499, (ONE,)), (500, ((1, 3),))), (NOUGHT, (-499, ((2, 5), (-1, 1))))),
        )

    def test_the_channels_are_what_the_table_tells(self):
        maker = Maker(26)
        for splitter in pairs(27):
            row = maker.row()
            parts = (row_by(lambda k, x: x(2 * k), row), row_by(lambda k, x: x(2 * k + 1), row))
            with self.subTest(splitter=splitter, row=row):
                self.assertEqual(led(table_of(splitter), parts), split(splitter, row))

    def test_each_pair_of_pairs_is_the_table_of_one_splitter(self):
        maker = Maker(28)
        tables = [IDENTITY, (NONE, NONE), (NONE, HAAR), (FAR_PAIR, HAAR)] + [maker.table() for _ in range(40)]
        for by_table in tables:
            with self.subTest(table=by_table):
                splitter = splitter_with(by_table)
                self.assert_pair(splitter, splitter_with(table=by_table))
                self.assert_table(table_of(splitter), by_table)
        for splitter in pairs(29):
            self.assert_pair(splitter_with(table_of(splitter)), splitter)

    def test_known_splitters_with_tables(self):
        self.assert_pair(splitter_with(IDENTITY), (UNIT, (-1, (ONE,))))
        self.assert_pair(splitter_with(((UNIT, (1, (ONE,))), (UNIT, (1, ((-1, 1),))))), HAAR)

    def test_determinants(self):
        for splitter in pairs(30):
            if splitter != FAR_PAIR:
                with self.subTest(splitter=splitter):
                    found = determinant_of(splitter)
                    self.assertEqual(found, unmade(table(splitter)))
                    self.assertEqual(found, determinant_of(splitter=splitter))
                    self.assertTrue(is_row(found))

    def test_known_determinants(self):
        self.assertEqual(determinant_of(HAAR), (1, ((-2, 1),)))
        self.assertEqual(determinant_of((GAPS, SUMS)), (1, ((2, 1),)))
        self.assertEqual(determinant_of(THIN), (1, (ONE, ONE)))
        for splitter in ((SUMS, SUMS), NONE, (NOUGHT, GAPS), (GAPS, NOUGHT), (UNIT, (2, (ONE, NIL, ONE)))):
            self.assertEqual(determinant_of(splitter), NOUGHT)


class Delays(SplittersTestCase):
    def test_the_known_joiner(self):
        self.assertEqual(delay_of(HAAR, HAAR_BACK), 0)
        self.assertEqual(delay_of(joiner=HAAR_BACK, splitter=HAAR), 0)
        for late in (-7, -4, -1, 1, 2, 3, 10, 1001, -1001):
            self.assertEqual(delay_of(HAAR, moved(HAAR_BACK, late)), late)

    def test_splitters_made_of_steps(self):
        maker = Maker(31)
        for _ in range(40):
            by_table, back = IDENTITY, IDENTITY
            for at in range(3):
                row = maker.row(most=3, reach=3)
                step, undone = (((UNIT, given), (NOUGHT, UNIT)) for given in (row, times(-1, row)))
                if at % 2 == 0:
                    step, undone = (tuple(line[::-1] for line in reversed(one)) for one in (step, undone))
                by_table, back = table_product(step, by_table), table_product(back, undone)
            splitter = splitter_with(by_table)
            # The joiner's table has the even parts above, and the odd ones below.
            joiner = tuple(total(spread(back[0][at]), shifted(spread(back[1][at]), 1)) for at in (0, 1))
            late = maker.random.randint(-5, 5)
            with self.subTest(splitter=splitter, late=late):
                self.assertEqual(delay_of(splitter, joiner), 0)
                self.assertEqual(delay_of(splitter, moved(joiner, late)), late)
                self.assertEqual(delay_of(splitter, moved(joiner, 2 * late + 1)), 2 * late + 1)
                row = maker.row()
                self.assertEqual(join(moved(joiner, late), split(splitter, row)), shifted(row, late))

    def test_none(self):
        two = (0, ((2, 1),))
        for splitter, joiner in (
            (HAAR, HAAR), (HAAR, NONE), (NONE, HAAR), (NONE, NONE), (HAAR, (HAAR_BACK[1], HAAR_BACK[0])),
            # All rows come back doubled, halved, the opposite ones, or twice.
            (HAAR, tuple(times(2, row) for row in HAAR_BACK)), (HAAR, tuple(times(-1, row) for row in HAAR_BACK)),
            (HAAR, tuple(product((0, ((1, 2),)), row) for row in HAAR_BACK)),
            (HAAR, tuple(product(SUMS, row) for row in HAAR_BACK)),
            (HAAR, tuple(product((0, ((1, 2), (1, 2))), row) for row in HAAR_BACK)),
            # Rows with numbers at even places, or at odd ones, alone come back.
            ((UNIT, NOUGHT), (two, NOUGHT)), ((UNIT, NOUGHT), (UNIT, NOUGHT)), ((UNIT, UNIT), (UNIT, UNIT)),
            (((1, (ONE,)), NOUGHT), ((-1, ((2, 1),)), NOUGHT)), ((NOUGHT, UNIT), (NOUGHT, two)),
            # Of the two channels one is given back late.
            (HAAR, (HAAR_BACK[0], shifted(HAAR_BACK[1], 2))), (HAAR, (HAAR_BACK[0], NOUGHT)),
            (HAAR, (NOUGHT, HAAR_BACK[1])), (THIN, HAAR_BACK), (THIN, THIN),
        ):
            with self.subTest(splitter=splitter, joiner=joiner):
                self.assertIsNone(delay_of(splitter, joiner))

    def test_told_only_if_all_rows_come_back_late(self):
        # What is so for the rows 1 and z is so for all rows.
        for splitter, joiner in zip(pairs(32), pairs(33)):
            back = [join(joiner, split(splitter, (place, (ONE,)))) for place in (0, 1)]
            comes = back[0] != NOUGHT and back[0][1] == (ONE,) and back[1] == shifted(back[0], 1)
            self.assertEqual(delay_of(splitter, joiner), back[0][0] if comes else None)


class TablesBetween(SplittersTestCase):
    def test_to_itself(self):
        for splitter in (HAAR, THIN, (GAPS, SUMS), ((3, (ONE, (2, 1))), UNIT)):
            self.assert_table(table_between(splitter, splitter), IDENTITY)

    def test_none_from_a_nought_determinant(self):
        for splitter in ((SUMS, SUMS), NONE, (UNIT, NOUGHT), (NOUGHT, UNIT)):
            for other in (splitter, NONE, HAAR):
                self.assertIsNone(table_between(splitter, other))

    def test_to_a_nought_determinant(self):
        self.assert_table(table_between(HAAR, NONE), (NONE, NONE))
        self.assert_table(table_between(HAAR, (SUMS, SUMS)), ((UNIT, NOUGHT), (UNIT, NOUGHT)))
        self.assert_table(table_between(THIN, (THIN[1], NOUGHT)), ((NOUGHT, UNIT), NONE))

    def test_what_led_there_is_found(self):
        maker = Maker(34)
        for _ in range(60):
            splitter, by_table = maker.pair(), maker.table(most=3, reach=4)
            other = splitter_with(table_product(by_table, table(splitter)))
            with self.subTest(splitter=splitter, table=by_table):
                found = table_between(splitter=splitter, other=other)
                if unmade(table(splitter)) == NOUGHT:
                    self.assertIsNone(found)
                    continue
                self.assert_table(found, by_table)
                row = maker.row()
                self.assertEqual(led(found, split(splitter, row)), split(other, row))

    def test_none_where_one_place_does_not_divide(self):
        self.assertIsNone(table_between(THIN, HAAR))
        # The table of THIN is ((1 + z, 0), (0, z)): the column of 1 + z must be divided.
        for low, high, found in (
            ((SUMS, NOUGHT), (NOUGHT, UNIT), ((UNIT, NOUGHT), (NOUGHT, (-1, (ONE,))))),
            ((UNIT, NOUGHT), (NOUGHT, UNIT), None),
            ((SUMS, UNIT), (GAPS, UNIT), None),
            ((GAPS, UNIT), (SUMS, UNIT), None),
            ((SUMS, UNIT), (SUMS, GAPS), ((UNIT, (-1, (ONE,))), (UNIT, (-1, (ONE, (-1, 1)))))),
        ):
            with self.subTest(low=low, high=high):
                self.assertEqual(table_between(THIN, splitter_with((low, high))), found)

    def test_from_one_that_loses_nothing_there_is_always_one(self):
        maker = Maker(35)
        for _ in range(20):
            other, row = maker.pair(), maker.row()
            self.assertEqual(led(table_between(HAAR, other), split(HAAR, row)), split(other, row))


if __name__ == "__main__":
    unittest.main()
