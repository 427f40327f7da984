"""Points 26 and 27: ladders that are taken rounded, there and back, and how far rounding leads."""

import unittest
from fractions import Fraction
from math import floor, lcm

from bandsplits.ladders import climbed
from bandsplits.wholes import is_rounded, join_whole, least_multiple, rounding_bounds, split_whole
from samples import (
    EVEN_SCALE, HUGE, NIL, NOUGHT, ONE, UNIT, Maker, numbers_of, pair_of, product, row_by, row_of_numbers, row_with,
    shifted, steps_table, times, total,
)

HALF = (0, ((1, 2),))
MINUS_HALF = (0, ((-1, 2),))
MEANS = ((("high", (0, ((-1, 1),))), ("low", HALF)), EVEN_SCALE)


def rounded(row):
    return row_with({place: floor(number + Fraction(1, 2)) for place, number in numbers_of(row).items()})


def all_ladders(seed, many):
    maker = Maker(seed)
    draw = maker.random.randint
    for _ in range(many):
        steps = tuple((maker.random.choice(("low", "high")), maker.row(most=3, reach=3)) for _ in range(draw(0, 6)))
        yield (steps, tuple(((maker.random.choice((1, -1)), 1), draw(-4, 4)) for _ in "ab"))
    yield from [
        ((), EVEN_SCALE), ((), (((-1, 1), 1000), ((-1, 1), -1000))), ((("low", NOUGHT),), EVEN_SCALE), MEANS,
        ((("low", (0, ((1, HUGE),))), ("high", (-3, ((HUGE, 3), NIL, (1, 2))))), EVEN_SCALE),
    ]


def whole_row(maker, most=6, greatest=9):
    many = maker.random.randint(0, most)
    return row_of_numbers(maker.random.randint(-6, 6), *[maker.random.randint(-greatest, greatest) for _ in range(many)])


def at_first(scale, row):
    """The channels before the first step."""
    (low_sign, low_places), (high_sign, high_places) = scale
    low = shifted(times(Fraction(*low_sign), row_by(lambda k, x: x(2 * k), row)), low_places)
    return (low, shifted(times(Fraction(*high_sign), row_by(lambda k, x: x(2 * k + 1), row)), high_places + 1))


def walked(ladder, row):
    """The rounded channels, and the products that were rounded."""
    (low, high), products = at_first(ladder[1], row), []
    for way, step in ladder[0]:
        products.append(product(step, high if way == "low" else low))
        if way == "low":
            low = total(low, rounded(products[-1]))
        else:
            high = total(high, rounded(products[-1]))
    return (low, high), products


def is_whole(row):
    return all(number.denominator == 1 for number in numbers_of(row).values())


class ThereAndBack(unittest.TestCase):
    def test_rows(self):
        maker = Maker(121)
        for ladder in all_ladders(122, 80):
            row = whole_row(maker)
            with self.subTest(ladder=ladder, row=row):
                channels = split_whole(ladder, row)
                self.assertEqual(channels, walked(ladder, row)[0])
                self.assertEqual(channels, split_whole(row=row, ladder=ladder))
                self.assertTrue(is_whole(channels[0]) and is_whole(channels[1]))
                self.assertEqual(join_whole(ladder, channels), row)
                self.assertEqual(join_whole(channels=channels, ladder=ladder), row)

    def test_each_pair_of_channels_comes_up(self):
        maker = Maker(123)
        for ladder in all_ladders(124, 80):
            channels = (whole_row(maker), whole_row(maker))
            with self.subTest(ladder=ladder, channels=channels):
                row = join_whole(ladder, channels)
                self.assertTrue(is_whole(row))
                self.assertEqual(split_whole(ladder, row), channels)

    def test_halves_are_rounded_up(self):
        # The odd number stands in the high channel at place 1, and a half of it comes to the low one.
        for number, change in ((1, 1), (-1, 0), (3, 2), (-3, -1), (5, 3), (-5, -2), (2, 1), (-2, -1), (0, 0)):
            row = row_of_numbers(1, number)
            high = row_of_numbers(1, number)
            self.assertEqual(split_whole(((("low", HALF),), EVEN_SCALE), row), (row_of_numbers(1, change), high))
        for number, change in ((1, 0), (-1, 1), (3, -1), (-3, 2)):
            self.assertEqual(split_whole(((("low", MINUS_HALF),), EVEN_SCALE), row_of_numbers(1, number))[0], row_of_numbers(1, change))
        thirds = ((("high", (0, ((1, 3),))),), EVEN_SCALE)
        for number, change in ((1, 0), (2, 1), (3, 1), (4, 1), (5, 2), (-1, 0), (-2, -1), (-4, -1), (-5, -2)):
            self.assertEqual(split_whole(thirds, row_of_numbers(0, number))[1], row_of_numbers(0, change))

    def test_great_numbers(self):
        ladder = ((("low", (0, ((1, 2), (1, HUGE)))), ("high", (0, ((HUGE - 1, HUGE),)))), EVEN_SCALE)
        row = row_of_numbers(0, HUGE, HUGE - 1, -HUGE)
        self.assertEqual(split_whole(ladder, row), walked(ladder, row)[0])
        self.assertEqual(join_whole(ladder, split_whole(ladder, row)), row)

    def test_the_nought_row(self):
        for ladder in all_ladders(125, 10):
            self.assertEqual(split_whole(ladder, NOUGHT), (NOUGHT, NOUGHT))
            self.assertEqual(join_whole(ladder, (NOUGHT, NOUGHT)), NOUGHT)
            self.assertIs(is_rounded(ladder, NOUGHT), False)


class Multiples(unittest.TestCase):
    def test_the_least(self):
        for ladder in all_ladders(126, 60):
            with self.subTest(ladder=ladder):
                least = 1
                scale = at_first(ladder[1], UNIT)[0], at_first(ladder[1], (1, (ONE,)))[1]
                for steps in range(1, len(ladder[0]) + 1):
                    for line in steps_table(ladder[0][:steps]):
                        for row, first in zip(line, scale):
                            for number in numbers_of(product(row, first)).values():
                                least = lcm(least, number.denominator)
                self.assertEqual(least_multiple(ladder), least)
                self.assertEqual(least_multiple(ladder=ladder), least)

    def test_known_ones(self):
        self.assertEqual(least_multiple(((), EVEN_SCALE)), 1)
        self.assertEqual(least_multiple(((("low", NOUGHT), ("high", (3, ((7, 1),)))), EVEN_SCALE)), 1)
        self.assertEqual(least_multiple(((("low", (0, ((5, 6),))),), EVEN_SCALE)), 6)
        # On the way there are halves, at the end there are none.
        self.assertEqual(least_multiple(((("low", HALF), ("low", MINUS_HALF)), EVEN_SCALE)), 2)
        self.assertEqual(least_multiple(((("low", HALF), ("high", (0, ((1, 3),)))), EVEN_SCALE)), 6)

    def test_multiples_are_never_rounded_and_other_numbers_are(self):
        maker = Maker(127)
        for ladder in all_ladders(128, 60):
            least = least_multiple(ladder)
            for times_least in (1, 2, 5):
                row = times(least * times_least, whole_row(maker))
                with self.subTest(ladder=ladder, row=row):
                    self.assertIs(is_rounded(ladder, row), False)
                    self.assertEqual(split_whole(ladder, row), climbed(ladder, row))
            for number in range(1, 13):
                # If some row of multiples is rounded, a row with one number is.
                alone = any(is_rounded(ladder, (place, ((number, 1),))) for place in (0, 1))
                self.assertIs(alone, number % least != 0)

    def test_just_where_a_product_is_not_whole(self):
        maker = Maker(129)
        for ladder in all_ladders(130, 80):
            row = whole_row(maker)
            told = not all(is_whole(line) for line in walked(ladder, row)[1])
            with self.subTest(ladder=ladder, row=row):
                self.assertIs(is_rounded(ladder, row), told)
                self.assertIs(is_rounded(row=row, ladder=ladder), told)

    def test_rounded_on_the_way_though_not_at_the_end(self):
        ladder = ((("low", HALF), ("low", MINUS_HALF)), EVEN_SCALE)
        self.assertIs(is_rounded(ladder, (1, (ONE,))), True)
        self.assertIs(is_rounded(ladder, (0, (ONE,))), False)
        # What was rounded in the first step decides in the second one: 1 in place of 1 / 2.
        ladder = ((("low", HALF), ("high", (0, ((1, 1),)))), EVEN_SCALE)
        self.assertIs(is_rounded(ladder, (1, (ONE,))), True)


class Bounds(unittest.TestCase):
    def test_by_each_step(self):
        for ladder in all_ladders(131, 60):
            bounds = {"low": Fraction(0), "high": Fraction(0)}
            for way, row in ladder[0]:
                other = bounds["high" if way == "low" else "low"]
                bounds[way] += other * sum(abs(number) for number in numbers_of(row).values())
                bounds[way] += 0 if is_whole(row) else Fraction(1, 2)
            with self.subTest(ladder=ladder):
                told = (pair_of(bounds["low"]), pair_of(bounds["high"]))
                self.assertEqual(rounding_bounds(ladder), told)
                self.assertEqual(rounding_bounds(ladder=ladder), told)

    def test_known_bounds(self):
        self.assertEqual(rounding_bounds(((), EVEN_SCALE)), (NIL, NIL))
        self.assertEqual(rounding_bounds(((("low", (0, ((-3, 1),))), ("high", NOUGHT)), EVEN_SCALE)), (NIL, NIL))
        steps = (("low", HALF), ("high", (0, ((-1, 1), (2, 1)))), ("low", (0, ((-1, 3),))))
        self.assertEqual(rounding_bounds((steps, EVEN_SCALE)), ((3, 2), (3, 2)))

    def test_never_farther(self):
        maker = Maker(132)
        for ladder in all_ladders(133, 60):
            bounds = [Fraction(*bound) for bound in rounding_bounds(ladder)]
            row = whole_row(maker, 9, 99)
            for one, other, bound in zip(split_whole(ladder, row), climbed(ladder, row), bounds):
                apart = numbers_of(total(one, times(-1, other))).values()
                self.assertLessEqual(max([abs(number) for number in apart], default=0), bound)


if __name__ == "__main__":
    unittest.main()
