"""Points 16, 17 and 18: keepers of energy, their factors, rows and turns."""

import unittest
from fractions import Fraction
from math import gcd

from bandsplits.circle import greatest_share, least_share, shares_between
from bandsplits.flats import symmetry_of
from bandsplits.losses import joiner_of, loss_word
from bandsplits.turns import energy_factor, is_keeper, is_turns, keeper_with, splitter_by_turns, turns_of
from samples import (
    GAPS_ROW, HAAR_PAIR, HUGE, NIL, NOUGHT, ONE, PLAIN, SUMS_ROW, UNIT, Maker, numbers_of, pair_of, product,
    row_of_numbers, row_with, share_of, shifted, splitter_from, table, table_product, times,
)

NONE = (NOUGHT, NOUGHT)
STAY = (UNIT, (1, (ONE, NIL, ONE)))


def turned(row):
    return row_with({-place: number for place, number in numbers_of(row).items()})


def turn(first, second):
    """The table V of [17]."""
    size = Fraction(1, first * first + second * second)
    across = times(size * first * second, row_of_numbers(0, -1, 1))
    return (
        (times(size, row_of_numbers(0, second ** 2, first ** 2)), across),
        (across, times(size, row_of_numbers(0, first ** 2, second ** 2))),
    )


def by_turns(shift, directions, last):
    """The splitter that [17] tells."""
    out = tuple(tuple(row_of_numbers(shift, Fraction(*number)) for number in line) for line in last)
    for direction in reversed(directions):
        out = table_product(turn(*direction), out)
    return splitter_from(out)


def all_turns(seed, many, reach=6):
    maker = Maker(seed)
    draw = maker.random.randint
    for _ in range(many):
        directions = []
        for _ in range(draw(0, 8)):
            first, second = draw(0, reach), draw(-reach, reach)
            near = directions[-1] if directions else (0, 0)
            if gcd(first, second) == 1 and (first, second) > (0, 0):
                if not directions or near[0] * first + near[1] * second != 0:
                    directions.append((first, second))
        a, c = Fraction(draw(1, 5), draw(1, 4)), Fraction(draw(-5, 5), draw(1, 4))
        sign = maker.random.choice((1, -1))
        last = ((pair_of(a), pair_of(-sign * c)), (pair_of(c), pair_of(sign * a)))
        yield (draw(-9, 9), tuple(directions), last)


class Turns(unittest.TestCase):
    def test_there_and_back(self):
        for turns in list(all_turns(81, 80)) + [(-1000, ((0, 1),), PLAIN), (1000, (), PLAIN), (7, ((1, 0),) * 12, PLAIN)]:
            with self.subTest(turns=turns):
                self.assertIs(is_turns(turns), True)
                splitter = splitter_by_turns(turns)
                self.assertEqual(splitter, by_turns(*turns))
                self.assertEqual(splitter, splitter_by_turns(turns=turns))
                self.assertEqual(turns_of(splitter), turns)
                self.assertEqual(turns_of(splitter=splitter), turns)

    def test_keepers_without_turns(self):
        for splitter, turns in (
            ((UNIT, (-1, (ONE,))), (0, (), PLAIN)), (((4, (ONE,)), (3, (ONE,))), (2, (), PLAIN)),
            ((shifted(SUMS_ROW, -1), shifted(GAPS_ROW, -1)), (0, (), ((ONE, ONE), ((-1, 1), ONE)))),
            (((-1, ((2, 3),)), (0, ((2, 3),))), (0, (), ((NIL, (2, 3)), ((2, 3), NIL)))),
        ):
            with self.subTest(splitter=splitter):
                self.assertEqual(turns_of(splitter), turns)
                self.assertEqual(splitter_by_turns(turns), splitter)

    def test_known_turns(self):
        self.assertEqual(turns_of((UNIT, (1, (ONE,)))), (0, ((0, 1),), PLAIN))
        self.assertEqual(turns_of(((1, (ONE,)), UNIT)), (0, ((1, 0),), ((NIL, ONE), (ONE, NIL))))
        self.assertEqual(turns_of((UNIT, (9, (ONE,)))), (0, ((0, 1),) * 5, PLAIN))

    def test_right_angles_make_another_row_of_turns(self):
        # V(d) V(d') is z times the unit table then.
        for first, second in (((1, 0), (0, 1)), ((1, 2), (2, -1)), ((3, -5), (5, 3))):
            splitter = by_turns(0, (first, second), PLAIN)
            self.assertEqual(splitter, by_turns(1, (), PLAIN))
            self.assertEqual(turns_of(splitter), (1, (), PLAIN))
            self.assertIs(is_turns((0, (first, second), PLAIN)), False)
            self.assertIs(is_turns((0, (first, (7, 1), second), PLAIN)), True)

    def test_great_numbers(self):
        directions = ((HUGE, 1), (1, HUGE), (HUGE - 1, -HUGE), (0, 1), (HUGE, 3))
        turns = (-3, directions, (((3, HUGE), (-4, 1)), ((4, 1), (3, HUGE))))
        self.assertEqual(turns_of(splitter_by_turns(turns)), turns)
        self.assertEqual(energy_factor(splitter_by_turns(turns)), pair_of(16 + Fraction(9, HUGE ** 2)))

    def test_none_for_no_keeper(self):
        for splitter in (STAY, NONE, (UNIT, NOUGHT), (UNIT, UNIT), (SUMS_ROW, SUMS_ROW), (UNIT, (1, ((2, 1),)))):
            self.assertIsNone(turns_of(splitter))

    def test_what_is_turns(self):
        for right in ((0, (), PLAIN), (-HUGE, ((0, 1), (1, 1), (1, 0)), PLAIN), (0, ((2, -3), (2, -3)), PLAIN),
                      (3, ((1, HUGE),), (((3, 1), (4, 1)), ((4, 1), (-3, 1)))), (0, (), ((NIL, ONE), (ONE, NIL)))):
            self.assertIs(is_turns(right), True)
            self.assertIs(is_turns(value=right), True)


class Keepers(unittest.TestCase):
    def test_all_shares_are_the_factor(self):
        maker = Maker(82)
        for turns in all_turns(83, 30):
            splitter = splitter_by_turns(turns)
            (a, b), (c, d) = turns[2]
            factor = Fraction(*a) ** 2 + Fraction(*c) ** 2
            with self.subTest(turns=turns):
                self.assertEqual(energy_factor(splitter), pair_of(factor))
                self.assertEqual(energy_factor(splitter=splitter), pair_of(factor))
                self.assertIs(is_keeper(splitter), True)
                self.assertIs(is_keeper(splitter=splitter), True)
                self.assertEqual(share_of(splitter, maker.row(noughts=False)), factor)
                self.assertEqual(loss_word(splitter), "nothing")

    def test_the_joiner_is_the_table_turned_round(self):
        for turns in all_turns(84, 20):
            splitter = splitter_by_turns(turns)
            (a, b), (c, d) = table(splitter)
            factor = 1 / Fraction(*energy_factor(splitter))
            even, odd = ([times(factor, turned(row)) for row in line] for line in ((a, c), (b, d)))
            self.assertEqual(joiner_of(splitter), splitter_from([(even[0], shifted(odd[0], 1)), (even[1], shifted(odd[1], 1))]))

    def test_keepers_are_those_with_one_share(self):
        maker = Maker(85)
        for splitter in [maker.pair(most=3, reach=2) for _ in range(150)] + [HAAR_PAIR, STAY, NONE]:
            factor = energy_factor(splitter)
            with self.subTest(splitter=splitter):
                self.assertIs(is_keeper(splitter), factor is not None)
                if factor is not None:
                    self.assertTrue(shares_between(splitter, factor, factor) and factor[0] > 0)
                else:
                    self.assertTrue(splitter == NONE or least_share(splitter, 10 ** 12) < greatest_share(splitter, 10 ** 12))

    def test_no_keepers(self):
        for splitter in (
            NONE, STAY, (UNIT, NOUGHT), (NOUGHT, UNIT), (UNIT, UNIT), (SUMS_ROW, SUMS_ROW), (UNIT, (1, ((2, 1),))),
            (UNIT, (2, (ONE,))), (SUMS_ROW, shifted(GAPS_ROW, 1)), (SUMS_ROW, (0, (ONE, (-2, 1)))),
        ):
            with self.subTest(splitter=splitter):
                self.assertIsNone(energy_factor(splitter))
                self.assertIs(is_keeper(splitter), False)

    def test_low_rows_and_their_high_rows(self):
        for turns in all_turns(86, 30):
            low, high = splitter_by_turns(turns)
            first = row_with({1 - place: (-1) ** abs(1 - place) * number for place, number in numbers_of(low).items()})
            with self.subTest(low=low):
                self.assertEqual(keeper_with(low), (low, first))
                self.assertEqual(keeper_with(row=low), (low, first))
                # All others are this one shifted by an even number of places, or times -1.
                places = high[0] - first[0]
                self.assertEqual(places % 2, 0)
                self.assertIn(high, (shifted(first, places), times(-1, shifted(first, places))))
                for more in (first, times(-1, first), shifted(first, 4), shifted(times(-1, first), -6)):
                    self.assertIs(is_keeper((low, more)), True)
                for other in (shifted(first, 1), shifted(first, -3), times(2, first), low, NOUGHT):
                    self.assertIs(is_keeper((low, other)), False)

    def test_known_low_rows(self):
        self.assertEqual(keeper_with(UNIT), (UNIT, (1, ((-1, 1),))))
        self.assertEqual(keeper_with((-4, ((2, 3),))), ((-4, ((2, 3),)), (5, ((-2, 3),))))
        self.assertEqual(keeper_with((3, (ONE, NIL, NIL, ONE))), ((3, (ONE, NIL, NIL, ONE)), (-5, ((-1, 1), NIL, NIL, ONE))))

    def test_no_low_rows(self):
        maker = Maker(87)
        for row in [maker.row(most=5) for _ in range(60)] + [NOUGHT, (0, (ONE, NIL, ONE)), (0, (ONE, ONE, ONE))]:
            even = {place: number for place, number in numbers_of(product(row, turned(row))).items() if place % 2 == 0}
            with self.subTest(row=row):
                self.assertIs(keeper_with(row) is None, list(even) != [0])
                if keeper_with(row) is None:
                    maker_row = maker.row(most=5)
                    self.assertIs(is_keeper((row, maker_row)), False)

    def test_far_channels(self):
        splitter = (shifted(SUMS_ROW, -1000), shifted(GAPS_ROW, 1000))
        self.assertEqual(splitter_by_turns(turns_of(splitter)), splitter)
        self.assertEqual(len(turns_of(splitter)[1]), 1001)


class Symmetric(unittest.TestCase):
    def test_symmetric_keepers_have_one_or_two_numbers(self):
        symmetric = 0
        for turns in list(all_turns(88, 300, 1)) + [(0, (), PLAIN), (3, ((1, -1),), ((ONE, ONE), (ONE, (-1, 1))))]:
            splitter = splitter_by_turns(turns)
            if None not in [symmetry_of(row) for row in splitter]:
                symmetric += 1
                for row in splitter:
                    self.assertIn(len(numbers_of(row)), (1, 2))
        self.assertGreater(symmetric, 10)

    def test_with_more_numbers_one_row_is_not(self):
        for row in (row_of_numbers(0, 1, 1, 1, -1), row_of_numbers(-3, 6, 2, -3, 9)):
            self.assertIn(None, [symmetry_of(line) for line in keeper_with(row)])


if __name__ == "__main__":
    unittest.main()
