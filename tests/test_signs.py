"""The arithmetic beneath points 13 to 15: signs and zeros of polynomials of t, and what divides two polynomials."""

import unittest
from fractions import Fraction

from bandsplits.polynomials import (
    division_of, greatest_common, multiplier_of, odd_part_of_roots, product_of, quotient_of, simple_part, weighed_sum,
    without_top,
)
from bandsplits.rows import common_factor
from bandsplits.signs import has_zero, negative_cosine, roots_inside
from samples import HUGE, Maker, product, row_of_numbers

# Polynomials of t, the lowest power first, and how many zeros they have strictly between -2 and 2.
FACTORS = (
    ([0, 1], 1), ([-1, 1], 1), ([-2, 1], 0), ([2, 1], 0), ([-5, 1], 0), ([3, -2], 1), ([-1, 1, 1], 2), ([-2, 0, 1], 2),
    ([1, -3], 1), ([6, 5], 1), ([7, -3], 0), ([1, 0, 1], 0), ([1, 1, 1], 0), ([-5, 0, 1], 0), ([-1, -3, 0, 1], 3), ([-8, 2, 0, 5], 1),
)


def value_at(numbers, place):
    return sum(number * Fraction(place) ** power for power, number in enumerate(numbers))


def mixed(seed, many):
    """Products of the factors, and the factors that stand in them oddly often, or at all."""
    maker = Maker(seed)
    for _ in range(many):
        out, odd, some = [maker.random.choice((1, -3, 5))], [], []
        for factor in maker.random.sample(FACTORS, maker.random.randint(0, 4)):
            often = maker.random.randint(1, 4)
            some.append(factor)
            if often % 2:
                odd.append(factor)
            for _ in range(often):
                out = product_of(out, factor[0])
        yield out, odd, some


class Signs(unittest.TestCase):
    def test_zeros_within(self):
        for numbers, _, some in mixed(161, 150):
            with self.subTest(numbers=numbers):
                self.assertEqual(roots_inside(numbers), sum(zeros for _, zeros in some))
                at_an_end = value_at(numbers, 2) == 0 or value_at(numbers, -2) == 0
                self.assertIs(has_zero(numbers), at_an_end or sum(zeros for _, zeros in some) > 0)

    def test_one_zero_anywhere(self):
        for numbers, told in (
            ([], True), ([1], False), ([-3], False), ([2, 1], True), ([-2, 1], True), ([3, 1], False), ([-3, 1], False),
            ([0, 1], True), ([0, 0, 1], True), ([1, 0, 1], False), ([-2, 0, 0, 1], True), ([4, -4, 1], True),
        ):
            self.assertIs(has_zero(numbers), told)

    def test_below_0(self):
        for numbers, odd, _ in mixed(162, 150):
            found = negative_cosine(numbers)
            with self.subTest(numbers=numbers):
                if found is not None:
                    self.assertTrue(-2 <= Fraction(*found) <= 2)
                    self.assertLess(value_at(numbers, Fraction(*found)), 0)
                else:
                    # What changes its sign within would be below 0 somewhere.
                    self.assertEqual(sum(zeros for _, zeros in odd), 0)
                    self.assertGreaterEqual(min(value_at(numbers, Fraction(at, 50)) for at in range(-100, 101)), 0)

    def test_below_0_though_not_where_halving_comes_by(self):
        for numbers in (
            [0, 0, -1, 0, 1], [-4, -4, -1], [-4, 4, -1], [0, -4, 4, -1], [0, 4, 4, 1], [-1], [0, -1], [0, 1], [-2, 1],
            product_of([0, 0, 1], product_of([1, -2, 1], [-3, 0, 1])), [0, 0, 0, 0, -1], [HUGE * HUGE - 1, -HUGE],
        ):
            found = negative_cosine(numbers)
            if numbers[0] < HUGE:
                self.assertLess(value_at(numbers, Fraction(*found)), 0)
            else:
                self.assertIsNone(found)

    def test_never_below_0(self):
        for numbers in ([], [1], [0, 0, 1], [2, 1], [2, -1], [4, 0, -1], [1, 2, 1], [1, -4, 2, 4, 1], [4, 4, 1], [HUGE, 1]):
            self.assertIsNone(negative_cosine(numbers))

    def test_just_below_0(self):
        for far in (10, 10 ** 6, 10 ** 30):
            # (t * t - 3) ** 2 is 0 at no fraction; less a little it is below 0 near that.
            square = product_of([-3, 0, 1], [-3, 0, 1])
            numbers = weighed_sum(far, square, -1, [1])
            self.assertLess(value_at(numbers, Fraction(*negative_cosine(numbers))), 0)
            self.assertIsNone(negative_cosine(weighed_sum(far, square, 1, [1])))


class Divisors(unittest.TestCase):
    def test_what_divides_both(self):
        for (shared, _, _), (one, _, _), (other, _, _) in zip(mixed(163, 80), mixed(164, 80), mixed(165, 80)):
            first, second = product_of(product_of(one, [-9, 1]), shared), product_of(product_of(other, [11, 0, 1]), shared)
            found = greatest_common(first, second)
            with self.subTest(first=first, second=second):
                for numbers in (first, second):
                    self.assertEqual(without_top(division_of(numbers, found)[0]), [])
                self.assertGreaterEqual(len(found), len(shared))
                self.assertEqual(greatest_common(second, first)[-1] ** 2, found[-1] ** 2)
                self.assertEqual(len(greatest_common([1], second)), 1)

    def test_with_great_numbers(self):
        shared = row_of_numbers(0, 1, *[Fraction(HUGE + at, at + 3) for at in range(6)])
        one, other = (row_of_numbers(0, *[Fraction(at + 1, HUGE + by) for at in range(8)]) for by in (1, 7))
        other = product(other, row_of_numbers(0, 1, HUGE))
        self.assertEqual(common_factor(product(shared, row_of_numbers(0, 1, 5)), product(shared, other)), shared)
        self.assertEqual(common_factor(product(shared, one), product(shared, other)), product(
            shared, row_of_numbers(0, *range(1, 9)),
        ))

    def test_division_with_a_rest(self):
        maker = Maker(166)
        for _ in range(80):
            numbers = [maker.random.randint(-9, 9) for _ in range(maker.random.randint(0, 7))]
            divisor = [maker.random.randint(-9, 9) for _ in range(maker.random.randint(0, 4))] + [maker.random.choice((-6, 1, 4))]
            rest, steps = division_of(numbers, divisor)
            self.assertLess(len(rest), max(len(divisor), len(numbers) + 1))
            again = weighed_sum(1, product_of(quotient_of(steps), divisor), 1, rest)
            self.assertEqual(again, without_top([multiplier_of(steps) * number for number in numbers]))

    def test_each_factor_once(self):
        for numbers, odd, some in mixed(167, 80):
            self.assertEqual(len(simple_part(numbers)) - 1, sum(len(factor) - 1 for factor, _ in some))
            part = odd_part_of_roots(numbers)
            self.assertIn(len(part) - 1, (sum(len(factor) - 1 for factor, _ in odd), len(numbers) - 1))
            for place in (-3, -1, Fraction(1, 3), 1, 2, 4):
                if value_at(numbers, place) != 0:
                    self.assertGreater(value_at(numbers, place) * value_at(part, place), 0)


if __name__ == "__main__":
    unittest.main()
