"""Points 13, 14 and 15: sizes on the circle, shares, and bounded rows that are lost."""

import unittest
from fractions import Fraction
from math import isqrt

from bandsplits.circle import (
    breaking_cosine, circle_zeros, greatest_share, least_share, loses_bounded, shares_between, size_at, sizes_between,
    touches_circle,
)
from bandsplits.ratios import is_fraction
from samples import (
    GAPS_ROW, HAAR_PAIR, HUGE, NIL, NOUGHT, ONE, SUMS_ROW, UNIT, Maker, numbers_of, pair_of, product, row_of_numbers,
    share_of, shifted, size_by, splitter_from, spread, table, times, total,
)

NONE = (NOUGHT, NOUGHT)
STAY = (UNIT, (1, (ONE, NIL, ONE)))
LEAN = (UNIT, (1, (ONE, ONE)))
MANY = 10 ** 12
# Zeros at fractions t, at t that are no fractions, and none on the circle.
RIGHT_ANGLE, SIXTH, FIFTHS = row_of_numbers(0, 1, 0, 1), row_of_numbers(0, 1, -1, 1), row_of_numbers(0, 1, 1, 1, 1, 1)
SLANTED, FAR_PAIR, INSIDE = row_of_numbers(0, 5, 6, 5), row_of_numbers(0, 1, -3, 1), row_of_numbers(0, 2, 1)


def beside(row):
    """The splitter with the shares 1 and the row's sizes, at all angles."""
    return (UNIT, shifted(spread(row), 1))


def on_circle(row, across, up):
    """The square of the absolute value at z = (across + up i) ** 2 / (across ** 2 + up ** 2), and t there."""
    size = across * across + up * up
    real, side = Fraction(across * across - up * up, size), Fraction(2 * across * up, size)
    out = (Fraction(0), Fraction(0))
    numbers = numbers_of(row)
    power = (Fraction(1), Fraction(0))
    first, last = min(numbers, default=0), max(numbers, default=0)
    for place in range(first, last + 1):
        number = numbers.get(place, 0)
        out = (out[0] + number * power[0], out[1] + number * power[1])
        power = (power[0] * real - power[1] * side, power[0] * side + power[1] * real)
    return out[0] ** 2 + out[1] ** 2, 2 * real


def four_numbers(splitter, low, high, cosine):
    low, high = Fraction(*low), Fraction(*high)
    (a, b), (c, d) = table(splitter)
    trace = sum(size_by(row, cosine) for row in (a, b, c, d))
    square = size_by(total(product(a, d), times(-1, product(b, c))), cosine)
    return (trace - 2 * low, square - low * trace + low * low, 2 * high - trace, square - high * trace + high * high)


class Sizes(unittest.TestCase):
    def test_the_square_of_the_absolute_value(self):
        maker = Maker(61)
        for _ in range(60):
            row = maker.row(most=8, reach=9)
            for across, up in ((1, 0), (0, 1), (1, 1), (2, 1), (1, 3), (-4, 3), (5, 7)):
                size, cosine = on_circle(row, across, up)
                with self.subTest(row=row, cosine=cosine):
                    self.assertEqual(size_at(row, pair_of(cosine)), pair_of(size))

    def test_known_sizes(self):
        for cosine in range(-8, 9):
            cosine = Fraction(cosine, 4)
            self.assertEqual(size_at(NOUGHT, pair_of(cosine)), NIL)
            self.assertEqual(size_at(cosine=pair_of(cosine), row=(77, ((-2, 3),))), (4, 9))
            self.assertEqual(size_at(SUMS_ROW, pair_of(cosine)), pair_of(2 + cosine))
            self.assertEqual(size_at(shifted(GAPS_ROW, -1000), pair_of(cosine)), pair_of(2 - cosine))
            self.assertEqual(size_at(SIXTH, pair_of(cosine)), pair_of((cosine - 1) ** 2))
        self.assertEqual(size_at((0, ((HUGE, 1), (1, HUGE))), (2, 1)), pair_of((HUGE + Fraction(1, HUGE)) ** 2))

    def test_between(self):
        four, three = (4, 1), (3, 1)
        for row, low, high, told in (
            (SUMS_ROW, NIL, four, True), (SUMS_ROW, NIL, (4 * HUGE - 1, HUGE), False), (SUMS_ROW, (1, HUGE), four, False),
            (SUMS_ROW, (-1, 1), (5, 1), True), (NOUGHT, NIL, NIL, True), (NOUGHT, (-1, 1), (-1, 2), False),
            (NOUGHT, (1, 9), ONE, False), ((5, ((2, 1),)), four, four, True), ((5, ((2, 1),)), three, three, False),
            ((5, ((2, 1),)), (5, 1), (5, 1), False), (GAPS_ROW, NIL, four, True), (GAPS_ROW, NIL, three, False),
            # (t - 1) ** 2 is 0 within, and 9 at -2.
            (SIXTH, NIL, (9, 1), True), (SIXTH, NIL, (8, 1), False), (SIXTH, (1, HUGE), (9, 1), False),
            # t * t + t - 1, squared, is 0 at no fractions, and 25 at 2.
            (FIFTHS, NIL, (25, 1), True), (FIFTHS, NIL, (24, 1), False), (FIFTHS, (1, 10 ** 20), (25, 1), False),
            # (6 + 5 t) ** 2, and (t - 3) ** 2.
            (SLANTED, NIL, (256, 1), True), (SLANTED, (1, HUGE), (256, 1), False), (SLANTED, NIL, (255, 1), False),
            (FAR_PAIR, ONE, (25, 1), True), (FAR_PAIR, (2, 1), (25, 1), False),
        ):
            with self.subTest(row=row, low=low, high=high):
                self.assertIs(sizes_between(row, low, high), told)
                self.assertIs(sizes_between(high=high, low=low, row=row), told)

    def test_between_an_end_within_and_one_at_2(self):
        # 21 / 4 + 3 t / 2 + 2 (t * t - 2) is least at - 3 / 8, and greatest at 2.
        row = row_of_numbers(-3, 1, Fraction(1, 2), 2)
        least = Fraction(5, 4) - Fraction(9, 32)
        self.assertIs(sizes_between(row, pair_of(least), (100, 1)), True)
        self.assertIs(sizes_between(row, pair_of(least + Fraction(1, HUGE)), (100, 1)), False)
        self.assertIs(sizes_between(row, NIL, pair_of(Fraction(7, 2) ** 2)), True)
        self.assertIs(sizes_between(row, NIL, pair_of(Fraction(7, 2) ** 2 - Fraction(1, HUGE))), False)

    def test_all_sizes_are_between_where_it_is_told(self):
        maker = Maker(62)
        for _ in range(60):
            row = maker.row(most=6)
            sizes = [size_by(row, Fraction(at, 16)) for at in range(-32, 33)]
            low, high = pair_of(min(sizes)), pair_of(max(sizes))
            if sizes_between(row, low, high):
                self.assertTrue(all(min(sizes) <= size_by(row, Fraction(at, 77)) <= max(sizes)
                                    for at in range(-154, 155)))
            less = pair_of(max(sizes) - Fraction(1, 1000))
            self.assertIs(sizes_between(row, (-1, 1), less), False)
            self.assertIs(sizes_between(row, pair_of(min(sizes) + Fraction(1, 1000)), (HUGE, 1)), False)


class Zeros(unittest.TestCase):
    def test_each_place_once(self):
        factors = (
            (SUMS_ROW, 1), (GAPS_ROW, 1), (RIGHT_ANGLE, 2), (SIXTH, 2), (FIFTHS, 4), (SLANTED, 2), (FAR_PAIR, 0),
            (INSIDE, 0), (row_of_numbers(3, 1, 2), 0), (row_of_numbers(0, -3, 10, -3), 0),
            (row_of_numbers(0, 2, 0, 1, 0, 2), 4),
        )
        maker = Maker(63)
        for _ in range(150):
            row, zeros = (maker.random.randint(-9, 9), ((2, 3),)), 0
            for factor, many in maker.random.sample(factors, maker.random.randint(0, 5)):
                zeros += many
                for _ in range(maker.random.randint(1, 3)):
                    row = product(row, factor)
            with self.subTest(row=row):
                self.assertEqual(circle_zeros(row), zeros)
                self.assertIs(touches_circle(row), zeros > 0)
                self.assertEqual(circle_zeros(row=row), zeros)
                self.assertIs(touches_circle(row=row), zeros > 0)

    def test_known_rows(self):
        for row, zeros in (
            (UNIT, 0), ((900, ((-1, HUGE),)), 0), (SUMS_ROW, 1), (GAPS_ROW, 1), (row_of_numbers(0, 1, 0, -1), 2),
            (row_of_numbers(4, 1, 1, 1), 2), (row_of_numbers(0, *([1] * 24)), 23), (row_of_numbers(0, 1, *([0] * 22), 1), 23),
            (row_of_numbers(0, 1, *([0] * 22), -1), 23), (row_of_numbers(0, HUGE, HUGE + 1), 0),
            (row_of_numbers(0, HUGE, 2 * HUGE - 1, HUGE), 2), (row_of_numbers(0, HUGE, 2 * HUGE + 1, HUGE), 0),
            (row_of_numbers(0, HUGE, 2 * HUGE, HUGE), 1), (row_of_numbers(0, 1, 2, 2, 1), 3),
        ):
            with self.subTest(row=row):
                self.assertEqual(circle_zeros(row), zeros)
                self.assertIs(touches_circle(row), zeros > 0)

    def test_the_nought_row(self):
        self.assertEqual(circle_zeros(NOUGHT), "all")
        self.assertIs(touches_circle(NOUGHT), True)

    def test_seldom_any(self):
        maker = Maker(64)
        for _ in range(60):
            row = maker.row(most=7, noughts=False)
            # Where there is none, sizes stay above something.
            self.assertIs(sizes_between(row, (1, 10 ** 40), (HUGE, 1)), not touches_circle(row))


class Shares(unittest.TestCase):
    def splitters(self, seed, many):
        maker = Maker(seed)
        for _ in range(many):
            yield maker.pair(most=6, reach=5)
        yield from (HAAR_PAIR, STAY, LEAN, NONE, (NOUGHT, SUMS_ROW), (UNIT, NOUGHT), beside(SIXTH), beside(FIFTHS))

    def test_all_shares_are_between_both_ends(self):
        maker = Maker(65)
        for splitter in self.splitters(66, 40):
            least, greatest = least_share(splitter, MANY), greatest_share(splitter, MANY)
            for _ in range(5):
                share = share_of(splitter, maker.row(noughts=False))
                with self.subTest(splitter=splitter, share=share):
                    self.assertTrue(Fraction(least, MANY) <= share < Fraction(greatest + 1, MANY))
                    self.assertTrue(shares_between(splitter, NIL, (HUGE, 1)))
                    if share > 0:
                        self.assertFalse(shares_between(splitter, NIL, pair_of(share * Fraction(99, 100))))
                    self.assertFalse(shares_between(splitter, pair_of(share + Fraction(1, 100)), (HUGE, 1)))

    def test_rounded_down(self):
        for splitter in self.splitters(67, 40):
            for many in (1, 7, 1000, MANY):
                least, greatest = least_share(splitter, many), greatest_share(splitter, many)
                with self.subTest(splitter=splitter, many=many):
                    self.assertIs(type(least), int)
                    self.assertIs(type(greatest), int)
                    self.assertTrue(shares_between(splitter, pair_of(Fraction(least, many)), (HUGE, 1)))
                    self.assertFalse(shares_between(splitter, pair_of(Fraction(least + 1, many)), (HUGE, 1)))
                    self.assertTrue(shares_between(splitter, NIL, pair_of(Fraction(greatest + 1, many))))
                    if greatest > 0:
                        less = pair_of(Fraction(greatest, many) - Fraction(1, 10 ** 20))
                        self.assertFalse(shares_between(splitter, NIL, less))

    def test_known_ends(self):
        root = isqrt(5 * MANY * MANY)
        for splitter, least, greatest in (
            (LEAN, (3 * MANY - root - 1) // 2, (3 * MANY + root) // 2), (HAAR_PAIR, 2 * MANY, 2 * MANY),
            (STAY, 0, 4 * MANY), (beside(GAPS_ROW), 0, 4 * MANY), (beside(SIXTH), 0, 9 * MANY),
            (beside(FIFTHS), 0, 25 * MANY), (beside((0, ((1, 3),))), MANY // 9, MANY), (NONE, 0, 0),
            (beside((0, ((3, 1),))), MANY, 9 * MANY), (beside(SLANTED), 0, 256 * MANY), ((UNIT, NOUGHT), 0, MANY), (beside(INSIDE), MANY, 9 * MANY),
            # The sizes of 1 - z ** 4 are 0 at three fractions t, and 4 where t * t is 2.
            (beside(row_of_numbers(0, 1, 0, 0, 0, -1)), 0, 4 * MANY),
            (beside(row_of_numbers(0, Fraction(1, 2), 0, 0, 0, Fraction(1, 4))), MANY // 16, MANY),
            # The sizes of FAR_PAIR, (t - 3) ** 2, are from 1 to 25.
            (beside(FAR_PAIR), MANY, 25 * MANY), ((shifted(LEAN[0], -1000), shifted(LEAN[1], 1000)), None, None),
        ):
            with self.subTest(splitter=splitter):
                if least is not None:
                    self.assertEqual(least_share(splitter, MANY), least)
                    self.assertEqual(least_share(many=MANY, splitter=splitter), least)
                    self.assertEqual(greatest_share(splitter, MANY), greatest)
                    self.assertEqual(greatest_share(many=MANY, splitter=splitter), greatest)
                self.assertLessEqual(least_share(splitter, 10), greatest_share(splitter, 10))

    def test_ends_within_that_are_no_fractions(self):
        # The sizes are least and greatest where 3 t * t - 2 t - 6 is 0.
        row = row_of_numbers(0, 1, 1, -2, 1)
        splitter = (shifted(spread(row), 0), shifted(spread(row), 1))
        least, greatest = least_share(splitter, MANY), greatest_share(splitter, MANY)
        sizes = [size_by(row, Fraction(at, 2000)) for at in range(-4000, 4001)]
        self.assertEqual(sizes[::1000], [9 - 6 * t - t * t + t ** 3 for t in (Fraction(at, 2) for at in range(-4, 5))])
        self.assertTrue(0 <= min(sizes) * MANY - least < MANY // 1000)
        self.assertTrue(0 <= greatest + 1 - max(sizes) * MANY < MANY // 1000)
        self.assertTrue(sizes_between(row, pair_of(Fraction(least, MANY)), pair_of(Fraction(greatest + 1, MANY))))
        self.assertFalse(sizes_between(row, pair_of(Fraction(least + 1, MANY)), (HUGE, 1)))
        self.assertFalse(sizes_between(row, NIL, pair_of(Fraction(greatest, MANY))))

    def test_low_equal_to_high(self):
        for splitter, share in ((HAAR_PAIR, 2), (beside(UNIT), 1), (NONE, 0)):
            self.assertIs(shares_between(splitter, (share, 1), (share, 1)), True)
            self.assertIsNone(breaking_cosine(splitter, (share, 1), (share, 1)))
            for other in ((share * HUGE - 1, HUGE), (share * HUGE + 1, HUGE), (-1, 1)):
                self.assertIs(shares_between(splitter, other, other), False)
                self.assertTrue(is_fraction(breaking_cosine(splitter, other, other)))
        for splitter in (STAY, LEAN, (UNIT, NOUGHT)):
            for end in (NIL, ONE, (2, 1)):
                self.assertIs(shares_between(splitter, end, end), False)

    def test_a_breaking_cosine_is_told_just_where_something_breaks(self):
        maker = Maker(68)
        for splitter in self.splitters(69, 60):
            ends = sorted(Fraction(maker.random.randint(-4, 60), maker.random.randint(1, 4)) for _ in range(2))
            low, high = pair_of(ends[0]), pair_of(ends[1])
            with self.subTest(splitter=splitter, low=low, high=high):
                found = breaking_cosine(splitter, low, high)
                self.assertIs(shares_between(splitter, low, high), found is None)
                if found is None:
                    for at in range(-16, 17):
                        self.assertGreaterEqual(min(four_numbers(splitter, low, high, Fraction(at, 8))), 0)
                else:
                    self.assertTrue(is_fraction(found) and -2 <= Fraction(*found) <= 2)
                    self.assertLess(min(four_numbers(splitter, low, high, Fraction(*found))), 0)

    def test_each_of_the_four_numbers_breaks(self):
        for splitter, low, high in (
            # All shares are 2: below LOW, the product of both differences is above 0.
            (HAAR_PAIR, (3, 1), (4, 1)), (HAAR_PAIR, NIL, ONE), (beside((0, ((3, 1),))), (2, 1), (10, 1)),
            (beside((0, ((3, 1),))), NIL, (8, 1)), (beside(SIXTH), (1, HUGE), (9, 1)), (beside(SIXTH), NIL, (9 * HUGE - 1, HUGE)),
            (beside(FIFTHS), (1, 10 ** 30), (25, 1)), (STAY, (1, HUGE), (4, 1)),
        ):
            found = breaking_cosine(high=high, splitter=splitter, low=low)
            self.assertLess(min(four_numbers(splitter, low, high, Fraction(*found))), 0)
            self.assertIs(shares_between(high=high, splitter=splitter, low=low), False)

    def test_long_rows_and_great_numbers(self):
        maker = Maker(70)
        low, high = (
            row_of_numbers(start, *[Fraction(maker.random.randint(-999, 999), maker.random.randint(1, 99)) for _ in range(24)])
            for start in (-1000, 976)
        )
        least, greatest = least_share((low, high), MANY), greatest_share((low, high), MANY)
        ends = [pair_of(Fraction(number, MANY)) for number in (least, least + 1, greatest, greatest + 1)]
        self.assertTrue(shares_between((low, high), ends[0], ends[3]))
        self.assertFalse(shares_between((low, high), ends[1], ends[3]))
        self.assertFalse(shares_between((low, high), ends[0], ends[2]))
        great = ((0, ((HUGE, 1), (1, 1))), (1, ((1, HUGE), (HUGE, 3))))
        for many in (1, MANY):
            least, greatest = least_share(great, many), greatest_share(great, many)
            self.assertTrue(shares_between(great, pair_of(Fraction(least, many)), pair_of(Fraction(greatest + 1, many))))
            self.assertFalse(shares_between(great, pair_of(Fraction(least + 1, many)), (HUGE ** 3, 1)))
            self.assertFalse(shares_between(great, NIL, pair_of(Fraction(greatest, many) - Fraction(1, HUGE ** 3))))


class Bounded(unittest.TestCase):
    def test_a_zero_of_the_determinant_on_the_circle(self):
        for splitter, told in (
            (HAAR_PAIR, False), (STAY, True), (LEAN, False), (NONE, True), ((SUMS_ROW, SUMS_ROW), True),
            ((UNIT, NOUGHT), True), (beside(SIXTH), True), (beside(FIFTHS), True), (beside(INSIDE), False),
            (beside(FAR_PAIR), False), (beside(GAPS_ROW), True), (beside(product(INSIDE, RIGHT_ANGLE)), True),
            (splitter_from(((SLANTED, UNIT), (NOUGHT, INSIDE))), True),
            (splitter_from(((FAR_PAIR, UNIT), (NOUGHT, INSIDE))), False),
        ):
            with self.subTest(splitter=splitter):
                self.assertIs(loses_bounded(splitter), told)
                self.assertIs(loses_bounded(splitter=splitter), told)

    def test_exactly_where_the_least_share_is_0(self):
        maker = Maker(71)
        for _ in range(60):
            splitter = maker.pair(most=5, reach=3)
            with self.subTest(splitter=splitter):
                self.assertIs(loses_bounded(splitter), not shares_between(splitter, (1, 10 ** 30), (HUGE, 1)))


if __name__ == "__main__":
    unittest.main()
