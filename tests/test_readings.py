"""Points 31 and 32: what rows and their channels tell of a splitter."""

import unittest
from fractions import Fraction

from bandsplits.readings import do_tell, splitter_for, splitter_read, unlike_splitter
from bandsplits.rows import is_row
from samples import (
    GAPS_ROW, HAAR_PAIR, HUGE, NIL, NOUGHT, ONE, SUMS_ROW, UNIT, Maker, channel, numbers_of, product, row_by,
    row_of_numbers, shifted, spread, times, total,
)

NOUGHTS = (NOUGHT, NOUGHT)


def channels_of(splitter, row):
    return (channel(splitter[0], row), channel(splitter[1], row))


def parts(row):
    return (row_by(lambda k, x: x(2 * k), row), row_by(lambda k, x: x(2 * k + 1), row))


def with_parts(even, odd):
    return total(spread(even), shifted(spread(odd), 1))


def across(row, other):
    """The determinant of the parts of both rows."""
    (even, odd), (other_even, other_odd) = parts(row), parts(other)
    return total(product(even, other_odd), times(-1, product(odd, other_even)))


def value_of(row, place):
    """The row's polynomial at a number other than 0."""
    return sum(number * Fraction(place) ** power for power, number in numbers_of(row).items())


class OneRow(unittest.TestCase):
    def test_channels_that_come_up(self):
        maker = Maker(301)
        for _ in range(150):
            splitter, row = maker.pair(most=4), maker.row(most=7)
            channels = channels_of(splitter, row)
            with self.subTest(splitter=splitter, row=row):
                found = splitter_for(row, channels)
                self.assertEqual(channels_of(found, row), channels)
                self.assertEqual(splitter_for(channels=channels, row=row), found)

    def test_a_common_factor_must_divide_both(self):
        # Both parts are 0 at the root, and have no other common factor, so the channels have to be 0 there.
        maker = Maker(302)
        seen = set()
        for _ in range(200):
            root = Fraction(maker.random.choice((1, -1, 2, -3)), maker.random.choice((1, 2)))
            bar = row_of_numbers(maker.random.randint(-2, 2), root, -1)
            even, odd = maker.random.choice(((UNIT, maker.row()), (maker.row(), (3, ((2, 1),))), (UNIT, NOUGHT)))
            row = with_parts(product(bar, even), product(bar, odd))
            channels = tuple(
                product(bar, one) if maker.random.random() < 0.6 else one for one in maker.pair(most=3)
            )
            fits = all(value_of(one, root) == 0 for one in channels)
            seen.add(fits)
            with self.subTest(row=row, channels=channels):
                found = splitter_for(row, channels)
                self.assertIs(found is not None, fits)
                if fits:
                    self.assertEqual(channels_of(found, row), channels)
        self.assertEqual(seen, {True, False})

    def test_any_channels_without_a_common_factor(self):
        maker = Maker(303)
        for row in (UNIT, (7, (ONE,)), SUMS_ROW, GAPS_ROW, row_of_numbers(-3, 1, 2, 3), (0, ((1, HUGE),))):
            for _ in range(10):
                channels = maker.pair()
                self.assertEqual(channels_of(splitter_for(row, channels), row), channels)

    def test_the_nought_row(self):
        self.assertEqual(channels_of(splitter_for(NOUGHT, NOUGHTS), NOUGHT), NOUGHTS)
        for channels in ((UNIT, NOUGHT), (NOUGHT, UNIT), HAAR_PAIR):
            self.assertIsNone(splitter_for(NOUGHT, channels))
        self.assertEqual(channels_of(splitter_for(SUMS_ROW, NOUGHTS), SUMS_ROW), NOUGHTS)

    def test_a_factor_more_than_once(self):
        bar = product(row_of_numbers(0, 1, 1), row_of_numbers(0, 1, 1))
        row = with_parts(bar, product(bar, row_of_numbers(0, 1, 2)))
        self.assertIsNone(splitter_for(row, (bar, row_of_numbers(0, 1, 1))))
        self.assertIsNone(splitter_for(row, (row_of_numbers(2, 1, 1), NOUGHT)))
        self.assertEqual(channels_of(splitter_for(row, (bar, NOUGHT)), row), (bar, NOUGHT))

    def test_long_rows(self):
        maker = Maker(304)
        row = row_of_numbers(-1000, *[Fraction(maker.random.randint(1, 99), maker.random.randint(1, 9)) for _ in range(24)])
        channels = (row_of_numbers(1000, *range(1, 25)), row_of_numbers(-7, Fraction(1, HUGE), 5))
        self.assertEqual(channels_of(splitter_for(row, channels), row), channels)


class TwoRows(unittest.TestCase):
    def test_whether_they_tell(self):
        maker = Maker(305)
        for _ in range(200):
            row, other = maker.pair(most=3, reach=2)
            told = across(row, other) != NOUGHT
            with self.subTest(row=row, other=other):
                self.assertIs(do_tell(row, other), told)
                self.assertIs(do_tell(other=row, row=other), told)
        for row in (NOUGHT, UNIT, SUMS_ROW):
            self.assertIs(do_tell(row, NOUGHT), False)
            self.assertIs(do_tell(NOUGHT, row), False)
            # One row alone never tells.
            self.assertIs(do_tell(row, row), False)
            self.assertIs(do_tell(row, shifted(row, -4)), False)
        self.assertIs(do_tell(SUMS_ROW, shifted(SUMS_ROW, 1)), True)

    def test_the_only_splitter(self):
        maker = Maker(306)
        found = 0
        for _ in range(150):
            splitter, (row, other) = maker.pair(), maker.pair(most=6)
            if across(row, other) == NOUGHT:
                continue
            found += 1
            channels, others = channels_of(splitter, row), channels_of(splitter, other)
            with self.subTest(splitter=splitter, row=row, other=other):
                self.assertEqual(splitter_read(row, channels, other, others), splitter)
                self.assertEqual(splitter_read(others=others, other=other, channels=channels, row=row), splitter)
                self.assertIsNone(unlike_splitter(splitter, row, other))
        self.assertGreater(found, 80)

    def test_none_if_they_tell(self):
        maker = Maker(307)
        seen = set()
        for _ in range(150):
            splitter, (row, other) = maker.pair(most=3), maker.pair(most=4, reach=3)
            if across(row, other) == NOUGHT:
                continue
            # Such a change of one channel is that of a table's row only if the division leaves nothing.
            change = maker.random.choice((UNIT, maker.row(), across(row, other)))
            channels, others = channels_of(splitter, row), channels_of(splitter, other)
            channels = (total(channels[0], change), channels[1])
            with self.subTest(splitter=splitter, row=row, other=other, change=change):
                found = splitter_read(row, channels, other, others)
                seen.add(found is None)
                if found is not None:
                    self.assertEqual(channels_of(found, row), channels)
                    self.assertEqual(channels_of(found, other), others)
                if change == across(row, other):
                    self.assertIsNotNone(found)
        self.assertEqual(seen, {True, False})
        # The determinant of the parts is 1 + z, which divides no single row.
        row, other = (0, (ONE, NIL, ONE)), (1, (ONE,))
        self.assertEqual(across(row, other), SUMS_ROW)
        self.assertIsNone(splitter_read(row, (UNIT, NOUGHT), other, (NOUGHT, NOUGHT)))
        self.assertIsNone(splitter_read(row, (NOUGHT, UNIT), other, (NOUGHT, UNIT)))
        self.assertIsNotNone(splitter_read(row, (SUMS_ROW, NOUGHT), other, (NOUGHT, UNIT)))

    def alike(self, seed, many):
        """Pairs of rows whose parts are multiples of one pair, and what they are multiplied by."""
        maker = Maker(seed)
        for _ in range(many):
            pair = maker.random.choice(((UNIT, maker.row()), (maker.row(), UNIT), (UNIT, NOUGHT), (NOUGHT, (2, (ONE,)))))
            row, other = maker.row(most=3), maker.row(most=3)
            yield [with_parts(product(by, pair[0]), product(by, pair[1])) for by in (row, other)], (row, other), maker

    def test_channels_that_come_up_if_they_do_not_tell(self):
        for (row, other), _, maker in self.alike(308, 150):
            splitter = maker.pair(most=3)
            channels, others = channels_of(splitter, row), channels_of(splitter, other)
            with self.subTest(splitter=splitter, row=row, other=other):
                self.assertIs(do_tell(row, other), False)
                found = splitter_read(row, channels, other, others)
                self.assertEqual((channels_of(found, row), channels_of(found, other)), (channels, others))
                self.assertEqual(splitter_read(other=other, others=others, row=row, channels=channels), found)
                unlike = unlike_splitter(splitter, row, other)
                self.assertNotEqual(unlike, splitter)
                self.assertEqual((channels_of(unlike, row), channels_of(unlike, other)), (channels, others))
                self.assertEqual(unlike_splitter(other=other, splitter=splitter, row=row), unlike)

    def test_none_if_they_do_not_tell(self):
        for (row, other), (by, more), maker in self.alike(309, 150):
            # The channels of both have to be those multiples of one pair of rows.
            pair, change = maker.pair(most=2), maker.row(most=1, noughts=False)
            channels = tuple(product(by, one) for one in pair)
            others = (product(more, pair[0]), total(product(more, pair[1]), change))
            fits = by == NOUGHT and numbers_of(change) and len(numbers_of(more)) == 1
            with self.subTest(row=row, channels=channels, other=other, others=others):
                self.assertIsNotNone(splitter_read(row, channels, other, tuple(product(more, one) for one in pair)))
                if not fits:
                    self.assertIsNone(splitter_read(row, channels, other, others))
                    self.assertIsNone(splitter_read(other, others, row, channels))
                else:
                    self.assertIsNotNone(splitter_read(row, channels, other, others))

    def test_nought_rows(self):
        self.assertTrue(all(is_row(row) for row in splitter_read(NOUGHT, NOUGHTS, NOUGHT, NOUGHTS)))
        for channels, others in ((HAAR_PAIR, NOUGHTS), (NOUGHTS, HAAR_PAIR), ((NOUGHT, UNIT), NOUGHTS)):
            self.assertIsNone(splitter_read(NOUGHT, channels, NOUGHT, others))
            self.assertIs(splitter_read(NOUGHT, channels, SUMS_ROW, others) is None, channels != NOUGHTS)
            self.assertIs(splitter_read(SUMS_ROW, channels, NOUGHT, others) is None, others != NOUGHTS)
        for splitter in (HAAR_PAIR, NOUGHTS):
            self.assertNotEqual(unlike_splitter(splitter, NOUGHT, NOUGHT), splitter)

    def test_both_channels_matter(self):
        row, other = UNIT, (2, ((3, 1),))
        right = splitter_read(row, (UNIT, SUMS_ROW), other, ((1, ((3, 1),)), (1, ((3, 1), (3, 1)))))
        self.assertEqual(channels_of(right, row), (UNIT, SUMS_ROW))
        self.assertIsNone(splitter_read(row, (UNIT, SUMS_ROW), other, ((1, ((3, 1),)), (1, ((3, 1), (2, 1))))))
        self.assertIsNone(splitter_read(row, (UNIT, SUMS_ROW), other, ((1, ((2, 1),)), (1, ((3, 1), (3, 1))))))

    def test_huge_numbers_and_far_places(self):
        splitter = ((-1000, ((1, HUGE), (HUGE, 7))), (1000, ((-HUGE, 3),)))
        row, other = (999, ((HUGE, 11), ONE, (1, 2))), (-1000, ((3, HUGE), ONE))
        channels, others = channels_of(splitter, row), channels_of(splitter, other)
        self.assertEqual(splitter_read(row, channels, other, others), splitter)
        found = splitter_for(row, channels)
        self.assertEqual(channels_of(found, row), channels)


if __name__ == "__main__":
    unittest.main()
