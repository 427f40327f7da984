"""Points 11 and 12: endless rows, their channels, and what is lost."""

import unittest
from fractions import Fraction

from bandsplits.losses import (
    channel_values, is_endless, joiner_of, lost_endless, lost_row, loss_word, value_at,
)
from bandsplits.rows import is_row, later, multiplied
from bandsplits.splitters import delay_of, join, split, table_of
from samples import (
    GAPS_ROW, HAAR_PAIR, HUGE, NIL, NOUGHT, ONE, SUMS_ROW, UNIT, Maker, numbers_of, pair_of, product, row_of_numbers,
    shifted, splitter_from, spread, steps_table, table, times, total,
)

NONE = (NOUGHT, NOUGHT)
THIN = ((0, (ONE, NIL, ONE)), (1, (ONE,)))
HARES = ((ONE, (-1, 1), (-1, 1)), (NIL, ONE))
NOWHERE = ((ONE, (-2, 1)), (NIL,))
PLACES = list(range(-12, 13)) + [-1000, -999, -517, 518, 999, 1000]


def told(rule, values, reach):
    """The numbers of an endless row from - reach to reach, one after another."""
    rule, depth = [Fraction(*number) for number in rule], len(values)
    out = {place: Fraction(*number) for place, number in enumerate(values)}
    for place in range(depth, reach + 1):
        out[place] = -sum(rule[back] * out[place - back] for back in range(1, depth + 1)) / rule[0]
    for place in range(-1, -reach - 1, -1):
        out[place] = -sum(rule[back] * out[place + depth - back] for back in range(depth)) / rule[depth]
    return out


def endless_rows(seed, many):
    maker = Maker(seed)

    def numbers(count):
        return tuple(
            pair_of(Fraction(maker.random.randint(-4, 4), maker.random.randint(1, 4))) for _ in range(count)
        )
    while many > 0:
        depth = maker.random.randint(1, 6)
        rule, values = numbers(depth + 1), numbers(depth)
        if rule[0] != NIL and rule[-1] != NIL:
            many -= 1
            yield (rule, values)


def lossless(seed, many):
    """Splitters that lose nothing, made of steps."""
    maker = Maker(seed)
    for _ in range(many):
        steps = [(maker.random.choice(("low", "high")), maker.row(most=3, reach=3)) for _ in range(4)]
        low, high = maker.row(most=1, noughts=False), maker.row(most=1, noughts=False)
        yield splitter_from([(product(line[0], low), product(line[1], high)) for line in steps_table(steps)])


class EndlessRows(unittest.TestCase):
    def test_numbers_one_after_another(self):
        for endless in endless_rows(41, 60):
            known = told(*endless, 30)
            for place in range(-30, 31):
                with self.subTest(endless=endless, place=place):
                    self.assertEqual(value_at(endless, place), pair_of(known[place]))
            self.assertEqual(value_at(place=7, endless=endless), pair_of(known[7]))

    def test_known_numbers(self):
        self.assertEqual([value_at(HARES, place) for place in range(-4, 8)],
                         [(-3, 1), (2, 1), (-1, 1), (1, 1), NIL, ONE, ONE, (2, 1), (3, 1), (5, 1), (8, 1), (13, 1)])
        halves = ((ONE, (-1, 2)), ((3, 1),))
        self.assertEqual(value_at(halves, 1000), (3, 2 ** 1000))
        self.assertEqual(value_at(halves, -1000), (3 * 2 ** 1000, 1))
        six_at_ten = (((3, 1), (-2, 1)), (pair_of(Fraction(3, 2) ** 10 * 6),))
        self.assertEqual([value_at(six_at_ten, place) for place in (9, 10, 11)], [(9, 1), (6, 1), (4, 1)])
        signs = ((ONE, NIL, ONE), ((5, 1), (-7, 3)))
        self.assertEqual([value_at(signs, place) for place in (-1000, -999, 998, 999, 1000)],
                         [(5, 1), (-7, 3), (-5, 1), (7, 3), (5, 1)])
        less = (((-2, 3), (-1, 3)), (ONE,))
        self.assertEqual([value_at(less, place) for place in (-2, -1, 0, 1, 2)],
                         [(4, 1), (-2, 1), ONE, (-1, 2), (1, 4)])

    def test_the_rule_holds_far_out(self):
        for rule, values in list(endless_rows(42, 8)):
            for place in (-960, 995, 1000):
                numbers = [Fraction(*value_at((rule, values), place - back)) for back in range(len(rule))]
                self.assertEqual(sum(Fraction(*weight) * number for weight, number in zip(rule, numbers)), 0)

    def test_noughts_alone_are_let(self):
        self.assertIs(is_endless(NOWHERE), True)
        for place in PLACES:
            self.assertEqual(value_at(NOWHERE, place), NIL)
            self.assertEqual(channel_values(HAAR_PAIR, NOWHERE, place), (NIL, NIL))

    def test_what_is_one(self):
        for right in (HARES, NOWHERE, ((ONE, NIL, NIL, ONE), (NIL, NIL, ONE)), (((1, HUGE), (-HUGE, 1)), ((HUGE, 1),))):
            self.assertIs(is_endless(right), True)
            self.assertIs(is_endless(value=right), True)
        self.assertIs(is_endless(((ONE,) * 49, (NIL,) * 48)), True)

    def test_long_rules_and_great_numbers(self):
        # Of 1 + z + .. + z ** 48 the numbers come back after 49 places.
        long = ((ONE,) * 49, (NIL,) * 47 + ((HUGE, 1),))
        numbers = [value_at(long, place) for place in range(-60, 60)]
        self.assertEqual(numbers[:-49], numbers[49:])
        self.assertEqual([at - 60 for at, number in enumerate(numbers) if number == (-HUGE, 1)], [-50, -1, 48])
        great = (((HUGE, 1), (1 - HUGE, 1)), (ONE,))
        self.assertEqual(value_at(great, 5), ((HUGE - 1) ** 5, HUGE ** 5))


class Channels(unittest.TestCase):
    def test_each_second_number_of_the_product(self):
        maker = Maker(43)
        for endless in endless_rows(44, 40):
            splitter, known = maker.pair(most=6, reach=4), told(*endless, 40)
            for place in range(-8, 9):
                with self.subTest(splitter=splitter, endless=endless, place=place):
                    self.assertEqual(channel_values(splitter, endless, place), tuple(
                        pair_of(sum(number * known[2 * place - at] for at, number in numbers_of(row).items()))
                        for row in splitter
                    ))

    def test_by_name(self):
        self.assertEqual(channel_values(place=3, endless=HARES, splitter=HAAR_PAIR), ((13, 1), (3, 1)))

    def test_rows_far_from_place_0(self):
        doubling = ((ONE, (-2, 1)), (ONE,))
        for far in (-1000, 1000):
            splitter = ((far, (ONE, (3, 1))), (-far, ((1, 3), NIL, ONE)))
            for place in (-1000, -500, 0, 500, 1000):
                base = Fraction(2) ** (2 * place)
                low = base * (Fraction(2) ** -far + 3 * Fraction(2) ** (-far - 1))
                high = base * (Fraction(2) ** far / 3 + Fraction(2) ** (far - 2))
                self.assertEqual(channel_values(splitter, doubling, place), (pair_of(low), pair_of(high)))

    def test_rows_that_were_returned_from_much_farther(self):
        far = later((1000, (ONE,)), 1000)
        for _ in range(20):
            far = multiplied(far, far)
        signs = ((ONE, NIL, ONE), ((5, 1), (-7, 3)))
        self.assertEqual(far[0], 2000 * 2 ** 20)
        self.assertEqual(channel_values((far, later(far, 1)), signs, 0), ((5, 1), (7, 3)))
        self.assertEqual(channel_values((far, later(far, 1)), signs, 1), ((-5, 1), (-7, 3)))

    def test_a_row_across_both_sides_of_the_told_values(self):
        wide = row_of_numbers(-20, *range(1, 41))
        known = told(*HARES, 60)
        self.assertEqual(channel_values((wide, NOUGHT), HARES, 1), (
            pair_of(sum(number * known[2 - at] for at, number in numbers_of(wide).items())), NIL,
        ))


class LossWords(unittest.TestCase):
    def test_by_the_determinant(self):
        for splitter, word in (
            (HAAR_PAIR, "nothing"), ((UNIT, (1, (ONE,))), "nothing"), ((UNIT, (1001, ((-1, HUGE),))), "nothing"),
            ((UNIT, (2, (ONE,))), "finite"), (NONE, "finite"), ((UNIT, NOUGHT), "finite"), ((NOUGHT, UNIT), "finite"),
            ((SUMS_ROW, SUMS_ROW), "finite"), ((SUMS_ROW, product(spread(GAPS_ROW), SUMS_ROW)), "finite"),
            (THIN, "endless"), ((SUMS_ROW, (0, (ONE, (2, 1), ONE))), "endless"),
            ((SUMS_ROW, (0, (ONE, (2, 1), ONE, ONE))), "nothing"),
        ):
            with self.subTest(splitter=splitter):
                self.assertEqual(loss_word(splitter), word)
                self.assertEqual(loss_word(splitter=splitter), word)

    def test_determinants_that_are_single_nought_or_neither(self):
        maker = Maker(45)
        for _ in range(150):
            splitter = maker.pair(most=4, reach=3)
            (a, b), (c, d) = table(splitter)
            many = len(numbers_of(total(product(a, d), times(-1, product(b, c)))))
            self.assertEqual(loss_word(splitter), "finite" if many == 0 else "nothing" if many == 1 else "endless")
        for splitter in lossless(46, 30):
            self.assertEqual(loss_word(splitter), "nothing")


class Joiners(unittest.TestCase):
    def test_the_one_joiner(self):
        maker = Maker(47)
        for splitter in list(lossless(48, 40)) + [HAAR_PAIR, (shifted(HAAR_PAIR[0], 999), shifted(HAAR_PAIR[1], -999))]:
            with self.subTest(splitter=splitter):
                joiner = joiner_of(splitter)
                self.assertEqual(joiner, joiner_of(splitter=splitter))
                self.assertTrue(is_row(joiner[0]) and is_row(joiner[1]))
                self.assertEqual(delay_of(splitter, joiner), 0)
                row = maker.row()
                self.assertEqual(join(joiner, split(splitter, row)), row)

    def test_known_joiners(self):
        self.assertEqual(joiner_of((UNIT, (1, (ONE,)))), (UNIT, (-1, (ONE,))))
        self.assertEqual(joiner_of((UNIT, (3, ((2, 3),)))), (UNIT, (-3, ((3, 2),))))
        self.assertEqual(joiner_of((GAPS_ROW, SUMS_ROW)), ((-1, ((-1, 2), (1, 2))), (-1, ((1, 2), (1, 2)))))

    def test_none_where_something_is_lost(self):
        for splitter in (THIN, NONE, (SUMS_ROW, SUMS_ROW), (UNIT, NOUGHT), (UNIT, (2, (ONE,)))):
            self.assertIsNone(joiner_of(splitter))


class Lost(unittest.TestCase):
    def finite(self):
        maker = Maker(49)
        for _ in range(40):
            row, one, other = maker.row(most=4, reach=3), maker.row(most=3, reach=2), maker.row(most=3, reach=2)
            yield (product(row, spread(one)), product(row, spread(other)))
        yield from (NONE, (UNIT, NOUGHT), (NOUGHT, UNIT), (NOUGHT, (1, (ONE,))), (SUMS_ROW, SUMS_ROW))
        yield (product(GAPS_ROW, spread(GAPS_ROW)), product(GAPS_ROW, spread(SUMS_ROW)))
        # Both parts are 0 at 1, and at 1 / 2.
        yield (NOUGHT, spread(product(GAPS_ROW, row_of_numbers(0, 1, -2))))
        yield (NOUGHT, product(SUMS_ROW, spread(product(GAPS_ROW, row_of_numbers(0, 1, -2)))))
        yield (shifted(SUMS_ROW, -1000), shifted(SUMS_ROW, 1000))

    def endless(self):
        maker = Maker(50)
        for _ in range(60):
            splitter = maker.pair(most=6, reach=3)
            if loss_word(splitter) == "endless":
                yield splitter
        yield THIN
        # The determinant divides the lower line, the upper one, one place.
        for by_table in (((SUMS_ROW, UNIT), (NOUGHT, SUMS_ROW)), ((UNIT, NOUGHT), (SUMS_ROW, SUMS_ROW))):
            for lines in (by_table, by_table[::-1]):
                yield splitter_from([(shifted(line[0], 1), line[1]) for line in lines])
        yield splitter_from(((SUMS_ROW, NOUGHT), (NOUGHT, SUMS_ROW)))
        yield (shifted(THIN[0], 1000), shifted(THIN[1], -1000))
        yield (row_of_numbers(0, 1, 0, HUGE), (1, (ONE,)))

    def check_lost(self, splitter):
        gone = lost_endless(splitter)
        self.assertIs(is_endless(gone), True)
        # So many noughts in a row would be noughts alone.
        self.assertTrue(any(value_at(gone, place) != NIL for place in range(len(gone[1]))))
        for place in list(range(-6, 7)) + [-41, 60, -1000, 1000]:
            self.assertEqual(channel_values(splitter, gone, place), (NIL, NIL))

    def test_finite(self):
        for splitter in self.finite():
            with self.subTest(splitter=splitter):
                self.assertEqual(loss_word(splitter), "finite")
                row = lost_row(splitter)
                self.assertTrue(is_row(row) and row != NOUGHT)
                self.assertEqual(split(splitter, row), NONE)
                self.check_lost(splitter)

    def test_endless(self):
        for splitter in self.endless():
            with self.subTest(splitter=splitter):
                self.assertEqual(loss_word(splitter), "endless")
                self.assertIsNone(lost_row(splitter))
                self.check_lost(splitter)
                self.assertEqual(lost_endless(splitter=splitter), lost_endless(splitter))

    def test_nothing(self):
        for splitter in lossless(51, 10):
            self.assertIsNone(lost_row(splitter))
            self.assertIsNone(lost_row(splitter=splitter))
            self.assertIsNone(lost_endless(splitter))

    def test_unlike_endless_rows_have_unlike_channels_if_nothing_is_lost(self):
        for splitter, endless in zip(lossless(52, 10), endless_rows(53, 10)):
            joiner = joiner_of(splitter)
            wide = [numbers_of(row) for row in joiner]
            for place in range(-3, 4):
                back = sum(
                    number * Fraction(*channel_values(splitter, endless, (place - at) // 2)[which])
                    for which in (0, 1) for at, number in wide[which].items() if (place - at) % 2 == 0
                )
                self.assertEqual(pair_of(back), value_at(endless, place))

    def test_long_rows(self):
        numbers = tuple((7 * at % 11 - 5 or 3, at % 5 + 1) for at in range(24))
        low = row_of_numbers(-1000, *[Fraction(*number) for number in numbers])
        high = row_of_numbers(977, *[Fraction(*number) for number in reversed(numbers[1:] + ((2, 1),))])
        self.assertEqual(loss_word((low, high)), "endless")
        gone = lost_endless((low, high))
        self.assertLessEqual(len(gone[0]), 49)
        for place in (-3, 0, 5, 20, 200):
            self.assertEqual(channel_values((low, high), gone, place), (NIL, NIL))
        self.assertEqual(len(table_of((low, high))[0][0][1]), 12)


if __name__ == "__main__":
    unittest.main()
