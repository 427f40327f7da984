"""Points 3, 5, 6, 7 and 8: rows, their sums, products, parts, quotients and common factors."""

import unittest

from bandsplits.rows import (
    added, alternated, common_factor, even_part, is_row, later, multiplied, number_at, odd_part, quotient, row_of,
    turned_round, woven,
)
from samples import HUGE, NIL, NOUGHT, ONE, UNIT, Maker, numbers_of, product, row_by, row_with, shifted, total

SINGLE = (-3, ((-5, 7),))
MIXED = (-3, ((1, 2), (0, 1), (-3, 1), (7, 5)))
FAR_ROW = (10 ** 6 + 1, ((2, 3), (0, 1), (0, 1), (1, 1)))
BIG_PRIME = 2305843009213693951


def sample_rows(seed, many=60):
    maker = Maker(seed)
    return [NOUGHT, UNIT, SINGLE, MIXED, FAR_ROW] + [maker.row() for _ in range(many)]


def sample_pairs(seed):
    rows = sample_rows(seed)
    return list(zip(rows, reversed(rows))) + [(row, row) for row in rows[:3]] + [(NOUGHT, MIXED), (MIXED, NOUGHT)]


def is_plain(row):
    return row == NOUGHT or row[0] == 0 and row[1][0] == ONE


class RowsTestCase(unittest.TestCase):
    def assert_row(self, found, expected):
        """Equal, and a row to the last part: no True for 1, no list for a tuple."""
        self.assertEqual(found, expected)
        self.assertIs(is_row(found), True)


class Recognized(RowsTestCase):
    def test_rows(self):
        far = [(0, ((HUGE, 1),)), (HUGE, ((1, HUGE),)), (-HUGE, ((-HUGE, 7),)), (5, (ONE, NIL, ONE))]
        for row in sample_rows(1) + far:
            with self.subTest(row=row):
                self.assertIs(is_row(row), True)

    def test_near_misses(self):
        for value in (
            (1, ()), (-1, ()), (False, ()), (0, ()) * 2, [0, ()], (0, []), (0, (NIL,)), (0, (NIL, ONE)),
            (0, (ONE, NIL)), (0, ((2, 2),)), (0, ((0, 3), ONE)), (0, (ONE, (0, 3), ONE)), (0, ((1, 0),)),
            (0, ((1, -2),)), (True, (ONE,)), (0, ((True, 2),)), (0, ((3, True),)), (0, ([1, 1],)), (0, [ONE]),
            (0, ((1, 1, 1),)), (0, ((1,),)), (0, (1,)), ((ONE,), 0), (0, (ONE,), 0), (0,), 0, None, (ONE,), ONE,
        ):
            with self.subTest(value=value):
                self.assertIs(is_row(value), False)


class RowOf(RowsTestCase):
    def test_noughts_at_the_ends_are_left_out(self):
        self.assert_row(row_of(-1, (NIL, (1, 2), NIL)), (0, ((1, 2),)))
        self.assert_row(row_of(4, (NIL, NIL, (1, 2), NIL, (-3, 1), NIL, NIL)), (6, ((1, 2), NIL, (-3, 1))))
        self.assert_row(row_of(4, ((1, 2), NIL, NIL)), (4, ((1, 2),)))
        self.assert_row(row_of(-4, (NIL, NIL, (1, 2))), (-2, ((1, 2),)))
        self.assert_row(row_of(-4, ((1, 2), (3, 4))), (-4, ((1, 2), (3, 4))))

    def test_noughts_alone_make_the_nought_row(self):
        for start in (-1000, -7, 0, 7, 1000):
            for numbers in ((), (NIL,), (NIL,) * 5):
                self.assert_row(row_of(start, numbers), NOUGHT)

    def test_start_counts_wherever_the_row_then_begins(self):
        self.assert_row(row_of(1000, (ONE,)), (1000, (ONE,)))
        self.assert_row(row_of(-1000, (ONE,)), (-1000, (ONE,)))
        self.assert_row(row_of(1000, (NIL,) * 20 + (ONE,)), (1020, (ONE,)))

    def test_by_name(self):
        self.assert_row(row_of(numbers=(NIL, ONE), start=3), (4, (ONE,)))


class NumberAt(RowsTestCase):
    def test_at_and_around_its_places(self):
        found = [number_at(MIXED, place) for place in range(-6, 4)]
        self.assertEqual(found, [NIL, NIL, NIL, (1, 2), NIL, (-3, 1), (7, 5), NIL, NIL, NIL])

    def test_each_place_is_let(self):
        for place in (1001, -1001, HUGE, -HUGE, 10 ** 6, 10 ** 6 + 5):
            self.assertEqual(number_at(MIXED, place), NIL)
            self.assertEqual(number_at(NOUGHT, place), NIL)
        self.assertEqual([number_at(FAR_ROW, 10 ** 6 + at) for at in range(6)], [NIL, (2, 3), NIL, NIL, ONE, NIL])
        self.assertEqual(number_at((-HUGE, ((5, 3),)), -HUGE), (5, 3))

    def test_nought_row(self):
        self.assertEqual([number_at(NOUGHT, place) for place in (-1, 0, 1)], [NIL, NIL, NIL])


class SumsAndProducts(RowsTestCase):
    def test_sums(self):
        for row, other in sample_pairs(2):
            if abs(row[0] - other[0]) < 1000:
                with self.subTest(row=row, other=other):
                    self.assert_row(added(row, other), total(row, other))

    def test_sums_that_cancel(self):
        for row in sample_rows(3):
            self.assert_row(added(row, row_with({place: -number for place, number in numbers_of(row).items()})), NOUGHT)
        self.assert_row(added((0, (ONE, ONE, ONE)), (0, ((-1, 1), (1, 1), (-1, 1)))), (1, ((2, 1),)))
        self.assert_row(added((-2, (ONE, ONE)), (-2, ((-1, 1),))), (-1, (ONE,)))
        self.assert_row(added((-2, (ONE, ONE)), (-1, ((-1, 1),))), (-2, (ONE,)))

    def test_sums_over_a_gap(self):
        self.assert_row(added(UNIT, (3, ((1, 2),))), (0, (ONE, NIL, NIL, (1, 2))))
        self.assert_row(added((3, ((1, 2),)), UNIT), (0, (ONE, NIL, NIL, (1, 2))))

    def test_fractions_are_reduced(self):
        self.assert_row(added((0, ((1, 6),)), (0, ((1, 3),))), (0, ((1, 2),)))
        self.assert_row(multiplied((0, ((2, 3),)), (0, ((3, 4),))), (0, ((1, 2),)))

    def test_products(self):
        for row, other in sample_pairs(4):
            with self.subTest(row=row, other=other):
                self.assert_row(multiplied(row, other), product(row, other))

    def test_a_product_is_nought_only_if_a_factor_is(self):
        for row in sample_rows(5):
            self.assert_row(multiplied(row, NOUGHT), NOUGHT)
            self.assert_row(multiplied(NOUGHT, row), NOUGHT)
            self.assert_row(multiplied(row, UNIT), row)
            self.assertEqual(multiplied(row, MIXED) == NOUGHT, row == NOUGHT)

    def test_long_gaps(self):
        wide = added(UNIT, (2000, ((-1, 1),)))
        self.assert_row(multiplied(wide, wide), total(UNIT, (2000, ((-2, 1),)), (4000, (ONE,))))
        self.assert_row(quotient(multiplied(wide, MIXED), MIXED), wide)

    def test_what_was_returned_is_taken_whatever_its_size(self):
        row = (1000, ((10 ** 300, 10 ** 300 + 1), (1, 10 ** 399), (-(10 ** 399), 3)))
        for _ in range(4):
            row = multiplied(row, row)
        self.assert_row(row, row)
        self.assert_row(quotient(row, row), UNIT)
        self.assertEqual(row[0], 16000)
        self.assert_row(later(row, -1000), (15000, row[1]))
        self.assert_row(turned_round(turned_round(row)), row)


class Moved(RowsTestCase):
    def test_later(self):
        for row in sample_rows(6):
            for places in (-1000, -3, -1, 0, 1, 2, 1000):
                with self.subTest(row=row, places=places):
                    self.assert_row(later(row, places), shifted(row, places))

    def test_later_again_and_again(self):
        self.assert_row(later(later(later(MIXED, 1000), 1000), 1000), (2997, MIXED[1]))
        self.assert_row(later(later(NOUGHT, 1000), -3), NOUGHT)

    def test_turned_round(self):
        self.assert_row(turned_round((0, ((5, 1), (3, 1), (8, 1)))), (-2, ((8, 1), (3, 1), (5, 1))))
        self.assert_row(turned_round(SINGLE), (3, ((-5, 7),)))
        for row in sample_rows(7):
            with self.subTest(row=row):
                turned = {-place: number for place, number in numbers_of(row).items()}
                self.assert_row(turned_round(row), row_with(turned))

    def test_alternated(self):
        self.assert_row(alternated((-1, (ONE, ONE, ONE))), (-1, ((-1, 1), ONE, (-1, 1))))
        self.assert_row(alternated((-2, (ONE, NIL, ONE, (3, 2)))), (-2, (ONE, NIL, ONE, (-3, 2))))
        for row in sample_rows(8):
            with self.subTest(row=row):
                signed = {place: number * (-1) ** (place % 2) for place, number in numbers_of(row).items()}
                self.assert_row(alternated(row), row_with(signed))


class Parts(RowsTestCase):
    def test_parts(self):
        for row in sample_rows(9):
            if row[0] < 1000:
                with self.subTest(row=row):
                    self.assert_row(even_part(row), row_by(lambda place, x: x(2 * place), row))
                    self.assert_row(odd_part(row), row_by(lambda place, x: x(2 * place + 1), row))

    def test_parts_below_nought(self):
        row = (-3, ((1, 1), (2, 1), (3, 1), (4, 1), (5, 1)))
        self.assert_row(even_part(row), (-1, ((2, 1), (4, 1))))
        self.assert_row(odd_part(row), (-2, ((1, 1), (3, 1), (5, 1))))

    def test_parts_far_out(self):
        self.assert_row(even_part(FAR_ROW), (500002, (ONE,)))
        self.assert_row(odd_part(FAR_ROW), (500000, ((2, 3),)))

    def test_parts_that_end_with_noughts_or_are_nought(self):
        self.assert_row(even_part((0, (ONE, ONE, NIL, ONE))), UNIT)
        self.assert_row(odd_part((0, (ONE, NIL, ONE, ONE, ONE))), (1, (ONE,)))
        self.assert_row(even_part((1, (ONE, NIL, ONE))), NOUGHT)
        self.assert_row(odd_part((0, (ONE, NIL, ONE))), NOUGHT)
        self.assert_row(even_part(NOUGHT), NOUGHT)
        self.assert_row(odd_part(NOUGHT), NOUGHT)

    def test_woven(self):
        def rule(place, even, odd):
            return even(place // 2) if place % 2 == 0 else odd(place // 2)
        for row, other in sample_pairs(10):
            if max(row[0], other[0]) < 1000:
                with self.subTest(row=row, other=other):
                    self.assert_row(woven(row, other), row_by(rule, row, other))

    def test_woven_and_parts_lead_back(self):
        self.assert_row(woven(UNIT, NOUGHT), UNIT)
        self.assert_row(woven(NOUGHT, UNIT), (1, (ONE,)))
        for row in sample_rows(11):
            self.assert_row(woven(even_part(row), odd_part(row)), row)


class Divisions(RowsTestCase):
    def test_products_are_divided(self):
        for row, other in sample_pairs(12):
            with self.subTest(row=row, other=other):
                whole = product(row, other)
                self.assert_row(quotient(whole, other), row) if other != NOUGHT else None
                self.assert_row(quotient(whole, row), other) if row != NOUGHT else None

    def test_by_the_nought_row_there_is_none(self):
        for row in (NOUGHT, UNIT, MIXED):
            self.assertIsNone(quotient(row, NOUGHT))

    def test_the_nought_row_is_divided(self):
        for row in (UNIT, SINGLE, MIXED, FAR_ROW):
            self.assert_row(quotient(NOUGHT, row), NOUGHT)

    def test_single_rows_divide_all_and_no_others_the_unit(self):
        for row in sample_rows(13):
            found = quotient(row, SINGLE)
            self.assert_row(product(found, SINGLE), row)
            if row != NOUGHT:
                self.assertEqual(quotient(UNIT, row) is None, len(row[1]) > 1)

    def test_where_there_is_none(self):
        for row, other in (
            (UNIT, (0, (ONE, ONE))), ((0, (ONE, ONE)), (0, (ONE, ONE, ONE))), ((0, (ONE, ONE)), (0, (ONE, (2, 1)))),
            ((0, (ONE, ONE, ONE)), (0, (ONE, ONE))), ((0, (ONE, (3, 1), ONE)), (0, (ONE, ONE))),
            ((0, (ONE, NIL, ONE)), (0, (ONE, ONE))), ((0, ((2, 1), (5, 1), (3, 1))), (0, (ONE, (2, 1)))),
        ):
            with self.subTest(row=row, other=other):
                self.assertIsNone(quotient(row, other))

    def test_a_rest_leaves_none(self):
        maker = Maker(14)
        for _ in range(60):
            row, other = maker.row(), maker.row(noughts=False)
            spoilt = total(product(row, other), (maker.random.randint(-9, 9), (ONE,)))
            found = quotient(spoilt, other)
            with self.subTest(row=row, other=other):
                if len(other[1]) > 1:
                    self.assertIsNone(found)
                else:
                    self.assert_row(product(found, other), spoilt)

    def test_with_fractions(self):
        self.assert_row(quotient((5, ((1, 2), (5, 6), (1, 3))), (-2, ((3, 4), (3, 4)))), (7, ((2, 3), (4, 9))))
        self.assert_row(quotient((0, ((2, 1), (4, 1))), (0, ((4, 1), (8, 1)))), (0, ((1, 2),)))


class CommonFactors(RowsTestCase):
    def test_known_ones(self):
        for row, other, expected in (
            ((0, (ONE, NIL, (-1, 1))), (0, (ONE, (2, 1), ONE)), (0, (ONE, ONE))),
            ((5, ((2, 1), (2, 1))), (-3, ((1, 3), (1, 3))), (0, (ONE, ONE))),
            ((0, (ONE, ONE)), (0, (ONE, (-1, 1))), UNIT),
            ((0, ((4, 1), (8, 1))), (3, ((6, 1), (12, 1))), (0, (ONE, (2, 1)))),
            (SINGLE, MIXED, UNIT),
            (UNIT, UNIT, UNIT),
            (MIXED, MIXED, (0, (ONE, NIL, (-6, 1), (14, 5)))),
        ):
            with self.subTest(row=row, other=other):
                self.assert_row(common_factor(row, other), expected)
                self.assert_row(common_factor(other, row), expected)

    def test_nought_rows(self):
        self.assert_row(common_factor(NOUGHT, NOUGHT), NOUGHT)
        for row, expected in ((SINGLE, UNIT), (MIXED, (0, (ONE, NIL, (-6, 1), (14, 5)))), (UNIT, UNIT)):
            self.assert_row(common_factor(row, NOUGHT), expected)
            self.assert_row(common_factor(NOUGHT, row), expected)

    def test_of_all_common_factors_the_greatest(self):
        maker = Maker(15)
        for _ in range(80):
            row, other, shared = maker.row(), maker.row(), maker.row(noughts=False)
            first, second = product(row, shared), product(other, shared)
            with self.subTest(first=first, second=second):
                found = common_factor(first, second)
                self.assert_row(found, common_factor(second, first))
                self.assertTrue(is_plain(found))
                if found == NOUGHT:
                    self.assertEqual((first, second), (NOUGHT, NOUGHT))
                    continue
                self.assertIsNotNone(quotient(found, shared))
                rests = (quotient(first, found), quotient(second, found))
                self.assertNotIn(None, rests)
                self.assert_row(common_factor(*rests), UNIT)

    def test_numbers_that_a_large_prime_divides(self):
        for shared in (
            ((BIG_PRIME, 1), ONE), (ONE, (BIG_PRIME, 1)), ((BIG_PRIME, 1), ONE, (BIG_PRIME, 1)),
            (ONE, (BIG_PRIME, 1), ONE), (ONE, (1, BIG_PRIME)),
        ):
            for first in ((ONE, ONE), (ONE, (BIG_PRIME, 1)), ((BIG_PRIME, 1), ONE)):
                for second in ((ONE, (2, 1)), (ONE, (3, 1), ((2 * BIG_PRIME), 1)), (ONE,)):
                    rows = [product((0, shared), (0, numbers)) for numbers in (first, second)]
                    plain = product((0, shared), (0, ((shared[0][1], shared[0][0]),)))
                    with self.subTest(shared=shared, first=first, second=second):
                        self.assert_row(common_factor(*rows), plain)
                        self.assert_row(common_factor(*reversed(rows)), plain)
        # Modulo the prime these have a common factor, in fractions they have none.
        self.assert_row(common_factor((0, (ONE, ONE)), (0, (ONE, (1 + BIG_PRIME, 1)))), UNIT)
        self.assert_row(common_factor((0, (ONE, ONE)), (0, ((BIG_PRIME, 1), (2 * BIG_PRIME, 1)))), UNIT)

    def test_long_rows_with_long_numbers(self):
        numbers = [tuple((pow(7, 400 + 3 * at + by, 10 ** 390) * 2 + 1, 1) for at in range(12)) for by in (0, 50, 95)]
        first, second = product((0, numbers[0]), (0, numbers[1])), product((0, numbers[0]), (0, numbers[2]))
        found = common_factor(first, second)
        self.assertEqual(len(found[1]), 12)
        self.assert_row(found, common_factor((0, numbers[0]), NOUGHT))


class Conventions(RowsTestCase):
    def test_equal_calls_return_equal_results(self):
        for function in (added, multiplied, woven, quotient, common_factor):
            for row, other in sample_pairs(16)[10:40]:
                self.assertEqual(function(row, other), function(row=row, other=other))
                self.assertEqual(function(row, other), function(other=other, row=row))
        for function in (turned_round, alternated, even_part, odd_part):
            for row in sample_rows(17):
                self.assertEqual(function(row), function(row=row))
        self.assertEqual(later(places=2, row=MIXED), later(MIXED, 2))
        self.assertEqual(number_at(place=-1, row=MIXED), number_at(MIXED, -1))


if __name__ == "__main__":
    unittest.main()
