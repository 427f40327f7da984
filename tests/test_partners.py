"""Points 28, 29 and 30: partners, what bars them, all partners of a row, flat partners."""

import unittest
from fractions import Fraction

from bandsplits.flats import flatness_of, silences
from bandsplits.losses import loss_word
from bandsplits.partners import flat_partner, is_partner, partner_bar, partner_by, partner_of, partner_parts
from bandsplits.rows import is_row
from samples import (
    GAPS_ROW, HUGE, NIL, NOUGHT, ONE, SUMS_ROW, UNIT, Maker, numbers_of, pair_of, product, row_by, row_of_numbers,
    row_with, shifted, spread, steps_table, splitter_from, times, total,
)

MEAN = (0, ((1, 2), (1, 2)))


def sum_of(row):
    return sum(numbers_of(row).values())


def parts(row):
    return (row_by(lambda k, x: x(2 * k), row), row_by(lambda k, x: x(2 * k + 1), row))


def with_parts(even, odd):
    return total(spread(even), shifted(spread(odd), 1))


def fitting(seed, many):
    """Rows that have partners."""
    maker = Maker(seed)
    for _ in range(many):
        steps = [(maker.random.choice(("low", "high")), maker.row(most=3, reach=3)) for _ in range(4)]
        low, high = maker.row(most=1, noughts=False), maker.row(most=1, noughts=False)
        made = splitter_from([(product(line[0], low), product(line[1], high)) for line in steps_table(steps)])
        yield from made
    yield from (UNIT, (1, (ONE,)), (-1000, ((2, 3),)), (999, ((1, HUGE),)), MEAN, SUMS_ROW, GAPS_ROW)
    yield from (row_of_numbers(0, 1, HUGE), row_of_numbers(-7, 1, 2, 3), row_of_numbers(900, *range(1, 25)))


def barred(seed, many):
    """Rows whose parts have a common factor, and this one."""
    maker = Maker(seed)
    for _ in range(many):
        bar = row_of_numbers(0, 1, *[Fraction(maker.random.randint(-3, 3), 2) for _ in range(2)], 3)
        rest = next(row for row in fitting(maker.random.randint(0, 10 ** 6), 1) if len(row[1]) < 9)
        yield product(spread(bar), rest), bar
    for row in (SUMS_ROW, GAPS_ROW, row_of_numbers(0, 1, Fraction(1, HUGE))):
        yield spread(row), row
        yield shifted(spread(row), -999), row


class Partners(unittest.TestCase):
    def test_each_row_with_one(self):
        for row in fitting(141, 40):
            with self.subTest(row=row):
                found = partner_of(row)
                self.assertTrue(is_row(found))
                self.assertEqual(partner_of(row=row), found)
                self.assertEqual(loss_word((row, found)), "nothing")
                self.assertIs(is_partner(row, found), True)
                self.assertIs(is_partner(found, row), True)
                self.assertIsNone(partner_bar(row))
                self.assertIsNone(partner_bar(row=row))

    def test_rows_without_one(self):
        maker = Maker(142)
        for row, bar in barred(143, 30):
            with self.subTest(row=row):
                self.assertIsNone(partner_of(row))
                self.assertEqual(partner_bar(row), bar)
                self.assertEqual(partner_bar(row=row), bar)
                self.assertIs(is_partner(row, maker.row()), False)
                for many in (0, 1, 8):
                    self.assertIsNone(flat_partner(row, many))

    def test_the_nought_row(self):
        self.assertIsNone(partner_of(NOUGHT))
        self.assertEqual(partner_bar(NOUGHT), NOUGHT)
        for other in (NOUGHT, UNIT, SUMS_ROW):
            self.assertIs(is_partner(NOUGHT, other), False)
            self.assertIs(is_partner(other, NOUGHT), False)
        for many in (0, 3):
            self.assertIsNone(flat_partner(NOUGHT, many))

    def test_as_the_loss_word_tells(self):
        maker = Maker(144)
        for _ in range(200):
            row, other = maker.pair(most=3, reach=2)
            told = loss_word((row, other)) == "nothing"
            with self.subTest(row=row, other=other):
                self.assertIs(is_partner(row, other), told)
                self.assertIs(is_partner(other=other, row=row), told)
                if told:
                    self.assertIsNone(partner_bar(row))
                self.assertIs(partner_of(row) is None, partner_bar(row) is not None)

    def test_one_part_alone(self):
        for row, told in (
            ((4, (ONE,)), None), ((5, (ONE,)), None), ((4, (ONE, NIL, (2, 1))), (0, (ONE, (2, 1)))),
            ((5, (ONE, NIL, NIL, NIL, (3, 1))), (0, (ONE, NIL, (3, 1)))),
        ):
            self.assertEqual(partner_bar(row), told)

    def test_long_rows(self):
        maker = Maker(145)
        numbers = [Fraction(maker.random.randint(1, 999), maker.random.randint(1, 9)) for _ in range(24)]
        row = row_of_numbers(-1000, *numbers)
        self.assertIs(is_partner(row, partner_of(row)), True)
        self.assertIs(is_partner(row, flat_partner(row, 8)), True)
        self.assertIs(silences(flat_partner(row, 8), 8), True)


class AllPartners(unittest.TestCase):
    def test_each_triple_makes_one_and_is_told_again(self):
        maker = Maker(146)
        for row in fitting(147, 30):
            known = partner_of(row)
            factor = pair_of(Fraction(maker.random.randint(1, 9) * maker.random.choice((1, -1)), maker.random.randint(1, 5)))
            places, step = maker.random.choice((-1000, -3, 0, 2, 1000)), maker.row(most=3)
            with self.subTest(row=row, factor=factor, places=places, step=step):
                made = partner_by(row, known, factor, places, step)
                self.assertEqual(made, total(
                    times(Fraction(*factor), shifted(known, 2 * places)), product(spread(step), row),
                ))
                self.assertEqual(made, partner_by(step=step, places=places, factor=factor, other=known, row=row))
                self.assertIs(is_partner(row, made), True)
                self.assertEqual(partner_parts(row, known, made), (factor, places, step))
                self.assertEqual(partner_parts(third=made, other=known, row=row), (factor, places, step))

    def test_any_two_partners(self):
        maker = Maker(148)
        found = 0
        for _ in range(600):
            row, other, third = maker.row(most=3, reach=2), maker.row(most=3, reach=2), maker.row(most=3, reach=2)
            if is_partner(row, other) and is_partner(row, third):
                found += 1
                factor, places, step = partner_parts(row, other, third)
                self.assertEqual(partner_by(row, other, factor, places, step), third)
        self.assertGreater(found, 20)

    def test_itself(self):
        for row in fitting(149, 5):
            self.assertEqual(partner_parts(row, partner_of(row), partner_of(row)), (ONE, 0, NOUGHT))

    def test_far_away(self):
        other, third = (1000, (ONE,)), (-1000, ((-2, 3),))
        self.assertEqual(partner_parts(SUMS_ROW, other, third)[:2], ((-2, 3), -1000))
        self.assertEqual(partner_by(UNIT, (1, (ONE,)), (5, 1), 1000, NOUGHT), (2001, ((5, 1),)))


class FlatPartners(unittest.TestCase):
    def test_as_flat_as_told_if_the_sum_is_not_0(self):
        for row in fitting(150, 20):
            for many in range(9):
                with self.subTest(row=row, many=many):
                    found = flat_partner(row, many)
                    if sum_of(row) == 0 and many > 0:
                        self.assertIsNone(found)
                        continue
                    self.assertIs(is_partner(row, found), True)
                    self.assertGreaterEqual(flatness_of(found), many)
                    self.assertEqual(flat_partner(many=many, row=row), found)

    def test_none_if_the_sum_is_0(self):
        for row in (GAPS_ROW, row_of_numbers(3, 1, 2, -3), row_of_numbers(-5, Fraction(1, 2), Fraction(-1, 2))):
            self.assertIsNotNone(partner_of(row))
            for many in range(1, 9):
                self.assertIsNone(flat_partner(row, many))
            self.assertIs(is_partner(row, flat_partner(row, 0)), True)
            # Each partner has a sum other than 0.
            for factor in (ONE, (-3, 1)):
                other = partner_by(row, partner_of(row), factor, 2, SUMS_ROW)
                self.assertEqual(flatness_of(other), 0)

    def test_it_makes_0_of_powers(self):
        found = numbers_of(flat_partner(MEAN, 4))
        for power in range(4):
            for place in range(-3, 4):
                self.assertEqual(sum(number * Fraction(place - at) ** power for at, number in found.items()), 0)

    def test_parts_of_a_partner(self):
        for row in (SUMS_ROW, row_of_numbers(-7, 1, 2, 3)):
            (even, odd), (upper, lower) = parts(row), parts(partner_of(row))
            self.assertEqual(with_parts(even, odd), row)
            across = total(product(even, lower), times(-1, product(odd, upper)))
            self.assertEqual(len(numbers_of(across)), 1)
            self.assertEqual(row_with(numbers_of(across)), across)


if __name__ == "__main__":
    unittest.main()
