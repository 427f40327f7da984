"""Points 19 to 22: flat and round rows, powers that are silenced and carried, symmetric rows, half bands."""

import unittest
from fractions import Fraction

from bandsplits.flats import (
    carries, flatness_of, flattest_half_band, is_half_band, on_power, roundness_of, silences, symmetry_of,
)
from bandsplits.rows import alternated
from samples import (
    GAPS_ROW, HUGE, NIL, NOUGHT, ONE, SUMS_ROW, UNIT, Maker, numbers_of, pair_of, product, row_of_numbers, row_with,
    shifted, times, total,
)

MOST = 10 ** 12


def made_at(row, power, place):
    """What the row makes of n ** power at the place."""
    return sum(number * Fraction(place - at) ** power for at, number in numbers_of(row).items())


def carried_at(row, power, place):
    """What the row makes at the place of n ** power spread out."""
    return sum(
        number * Fraction((place - at) // 2) ** power
        for at, number in numbers_of(row).items() if (place - at) % 2 == 0
    )


def value_of(polynomial, place):
    return sum(Fraction(*number) * Fraction(place) ** power for power, number in enumerate(polynomial))


def is_polynomial(values, degree):
    """Whether values one after another are those of a polynomial of at most this degree."""
    for _ in range(degree + 1):
        values = [after - before for before, after in zip(values, values[1:])]
    return len(values) > degree + 3 and not any(values)


class Flatness(unittest.TestCase):
    def test_how_often_both_divide(self):
        maker = Maker(91)
        for _ in range(80):
            rest = maker.row(noughts=False)
            flat, around = maker.random.randint(0, 6), maker.random.randint(0, 6)
            if 0 in (sum(numbers_of(rest).values()), sum(numbers_of(alternated(rest)).values())):
                continue
            row = rest
            for factor, many in ((GAPS_ROW, flat), (SUMS_ROW, around)):
                for _ in range(many):
                    row = product(row, factor)
            with self.subTest(row=row):
                self.assertEqual((flatness_of(row), roundness_of(row)), (flat, around))
                self.assertEqual((flatness_of(row=row), roundness_of(row=row)), (flat, around))
                for many in range(1, 9):
                    self.assertIs(silences(row, many), many <= flat)
                    self.assertIs(carries(row, many), many <= around)

    def test_known_rows(self):
        for row, flat, around in (
            (UNIT, 0, 0), ((-1000, ((1, HUGE),)), 0, 0), (row_of_numbers(0, 1, 0, -1), 1, 1),
            (row_of_numbers(9, 1, 0, 0, 0, -1), 1, 1), (row_of_numbers(-9, 1, 0, -2, 0, 1), 2, 2),
            (row_of_numbers(0, HUGE, -HUGE), 1, 0), (row_of_numbers(0, HUGE, 1 - HUGE), 0, 0),
            (row_of_numbers(0, Fraction(1, 3), Fraction(1, 6), Fraction(-1, 2)), 1, 0), (row_of_numbers(3, *([1] * 24)), 0, 1),
        ):
            with self.subTest(row=row):
                self.assertEqual((flatness_of(row), roundness_of(row)), (flat, around))

    def test_the_nought_row(self):
        self.assertEqual((flatness_of(NOUGHT), roundness_of(NOUGHT)), ("all", "all"))
        for many in (1, 2, MOST):
            self.assertIs(silences(NOUGHT, many), True)
            self.assertIs(carries(NOUGHT, many), True)

    def test_great_many(self):
        for row in (UNIT, GAPS_ROW, SUMS_ROW):
            self.assertIs(silences(row, MOST), False)
            self.assertIs(carries(row, MOST), False)
        self.assertIs(silences(many=1, row=GAPS_ROW), True)
        self.assertIs(carries(many=1, row=SUMS_ROW), True)


class Powers(unittest.TestCase):
    def rows(self):
        maker = Maker(92)
        for _ in range(30):
            row = maker.row(most=4, reach=5)
            for factor in maker.random.choices((GAPS_ROW, SUMS_ROW), k=maker.random.randint(0, 5)):
                row = product(row, factor)
            yield row

    def test_the_polynomial_that_is_made(self):
        for row in list(self.rows()) + [(1000, (ONE, (2, 1))), (-1000, ((1, HUGE),)), NOUGHT]:
            for power in range(9):
                with self.subTest(row=row, power=power):
                    made = on_power(row, power)
                    self.assertEqual(made, on_power(order=power, row=row))
                    self.assertIs(type(made), tuple)
                    self.assertTrue(made == () or made[-1] != NIL)
                    self.assertEqual(made, tuple(pair_of(Fraction(*number)) for number in made))
                    for place in (-7, -1, 0, 1, 2, 3, 5, 8, 999):
                        self.assertEqual(value_of(made, place), made_at(row, power, place))

    def test_known_polynomials(self):
        self.assertEqual(on_power(UNIT, 8), (NIL,) * 8 + (ONE,))
        self.assertEqual(on_power((3, ((1, 2),)), 2), ((9, 2), (-3, 1), (1, 2)))
        self.assertEqual(on_power(GAPS_ROW, 8)[:3], ((-1, 1), (8, 1), (-28, 1)))
        self.assertEqual([on_power(NOUGHT, power) for power in (0, 8)], [(), ()])
        self.assertEqual(on_power((0, (ONE, (-2, 1), ONE)), 1), ())

    def test_silenced_exactly_if_it_makes_nought_of_all_lower_powers(self):
        for row in self.rows():
            for many in range(1, 7):
                with self.subTest(row=row, many=many):
                    self.assertIs(silences(row, many), all(on_power(row, power) == () for power in range(many)))
                    at_even = all(made_at(row, power, place) == 0 for power in range(many) for place in range(-8, 9, 2))
                    self.assertIs(silences(row, many), at_even)

    def test_carried_exactly_if_polynomials_stay_polynomials(self):
        for row in self.rows():
            for many in range(1, 7):
                stay = all(
                    is_polynomial([carried_at(row, power, place) for place in range(-9, 10)], power)
                    for power in range(many)
                )
                with self.subTest(row=row, many=many):
                    self.assertIs(carries(row, many), stay)


class Symmetry(unittest.TestCase):
    def test_made_symmetric(self):
        maker = Maker(93)
        for _ in range(80):
            row, places, sign = maker.row(), maker.random.randint(-9, 9), maker.random.choice((1, -1))
            mirrored = row_with({places - place: sign * number for place, number in numbers_of(row).items()})
            both = total(row, mirrored)
            with self.subTest(both=both):
                self.assertEqual(symmetry_of(both), "all" if both == NOUGHT else (sign, places))
                self.assertEqual(symmetry_of(row=both), symmetry_of(both))

    def test_just_where_it_is(self):
        maker = Maker(94)
        for _ in range(80):
            row = maker.row(most=3, noughts=False)
            numbers = numbers_of(row)
            places = min(numbers) + max(numbers)
            signs = [sign for sign in (1, -1) if all(
                number == sign * numbers.get(places - place, 0) for place, number in numbers.items()
            )]
            self.assertEqual(symmetry_of(row), (signs[0], places) if signs else None)

    def test_known_rows(self):
        for row, told in (
            (NOUGHT, "all"), (UNIT, (1, 0)), ((-1000, ((-1, HUGE),)), (1, -2000)), (shifted(SUMS_ROW, 4), (1, 9)),
            (shifted(GAPS_ROW, 4), (-1, 9)), (row_of_numbers(2, 1, 0, -1), (-1, 6)), (row_of_numbers(2, 1, 5, -1), None),
            (row_of_numbers(0, 1, 2, 2, 1), (1, 3)), (row_of_numbers(0, 1, 2, 3, 1), None), (row_of_numbers(0, 1, 2), None),
        ):
            self.assertEqual(symmetry_of(row), told)


class HalfBands(unittest.TestCase):
    def test_what_is_one(self):
        for row, told in (
            (UNIT, True), (SUMS_ROW, True), (NOUGHT, False), ((1, (ONE,)), False), ((0, ((2, 1),)), False),
            (row_of_numbers(-3, 7, 0, -2, 1, 5), True), (row_of_numbers(-3, 7, 1, -2, 1, 5), False), ((2, (ONE,)), False),
            (row_of_numbers(-1, 7, 0, 3), False), (row_of_numbers(-1, 7, 1, 3, 4), False), (row_of_numbers(0, 1, 0, 0, 1), True),
        ):
            with self.subTest(row=row):
                self.assertIs(is_half_band(row), told)
                self.assertIs(is_half_band(row=row), told)

    def test_the_flattest(self):
        for order in range(1, 9):
            row = flattest_half_band(order)
            with self.subTest(order=order):
                self.assertEqual(row, flattest_half_band(order=order))
                self.assertIs(is_half_band(row), True)
                self.assertEqual((row[0], len(row[1])), (1 - 2 * order, 4 * order - 1))
                # There is no other one, as the difference would be divided by 1 + z and by 1 - z as often.
                self.assertEqual(roundness_of(row), 2 * order)
                self.assertEqual(symmetry_of(row), (1, 0))
                self.assertEqual(sum(numbers_of(row).values()), 2)

    def test_known_ones(self):
        self.assertEqual(flattest_half_band(3), times(Fraction(1, 256), row_of_numbers(
            -5, 3, 0, -25, 0, 150, 256, 150, 0, -25, 0, 3,
        )))


if __name__ == "__main__":
    unittest.main()
