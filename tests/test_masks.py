"""Points 35, 36 and 37: masks, staircases, and the curves to which they come."""

import unittest
from fractions import Fraction
from math import comb, factorial
from operator import mul

from bandsplits.flats import flattest_half_band
from bandsplits.masks import (
    curve_at, curve_moment, halved, has_curve, has_right_angles, inner_products, is_mask, staircase, steepness,
    transfer, transfer_rule,
)
from bandsplits.rows import later
from samples import (
    HUGE, NIL, NOUGHT, ONE, UNIT, Maker, numbers_of, pair_of, product, row_by, row_of_numbers, row_with, spread,
    times, total,
)

BOX = (0, (ONE, ONE))
HAT = (0, ((1, 2), ONE, (1, 2)))
CLEFT = (0, (ONE, NIL, NIL, ONE))
W = (-1, ((-1, 1), (2, 1), (-1, 1)))
# Orthogonal shifts with fractions: the even part of its product with itself turned round is 2 at place 0.
ANGLED = row_of_numbers(0, Fraction(6, 10), Fraction(12, 10), Fraction(4, 10), Fraction(-2, 10))


def spline(many):
    """2 * ((1 + z) / 2) ** many: its curve is made of that many boxes."""
    return row_of_numbers(0, *[Fraction(2 * comb(many, place), 2 ** many) for place in range(many + 1)])


def spline_at(many, place):
    """The curve of so many boxes at a place."""
    # The sum of (-1) ** k * C(many, k) * (place - k) ** (many - 1) over k below the place.
    return sum(
        ((-1) ** k * comb(many, k) * (Fraction(place) - k) ** (many - 1) for k in range(many + 1) if k < place),
        Fraction(0),
    ) / factorial(many - 1)


def interpolating(order):
    """The mask whose staircases lead polynomials of degree below 2 * order to themselves."""
    return later(flattest_half_band(order), 2 * order - 1)


def turned(row):
    return row_with({-place: number for place, number in numbers_of(row).items()})


def transferred(mask, row):
    """Tr as it is told."""
    sizes = product(mask, turned(mask))
    return times(Fraction(1, 2), row_by(lambda place, x: x(2 * place), product(sizes, row)))


def by_rule(rule, mask, row):
    """p(Tr) of the row."""
    out = NOUGHT
    for number in rule:
        out = total(out, times(Fraction(*number), row))
        row = transferred(mask, row)
    return out


def random_mask(maker, most=6, with_sums=True):
    """A mask, both parts of which sum to 1 if this is told."""
    many = maker.random.randint(2, most)
    numbers = [Fraction(maker.random.randint(-4, 4), maker.random.choice((2, 3, 4))) for _ in range(many)]
    if with_sums:
        for part in (0, 1):
            numbers[part] += 1 - sum(numbers[part::2])
    made = row_of_numbers(0, *numbers)
    return made if is_mask(made) else random_mask(maker, most, with_sums)


def masks(seed, many):
    maker = Maker(seed)
    for number in range(many):
        yield random_mask(maker, with_sums=number % 4 != 0)
    yield from [BOX, HAT, CLEFT, ANGLED] + [spline(many) for many in range(3, 9)]
    yield from [interpolating(1), interpolating(2), row_of_numbers(0, 1, 0, 0, 0, 0, 0, 0, 0, 1)]
    yield from [row_of_numbers(0, Fraction(1, HUGE), 1, 1 - Fraction(1, HUGE)), row_of_numbers(0, 10 ** 40, 1, 1 - 10 ** 40)]


def curved(seed, many):
    """Masks that have a curve, as the definition tells it by numbers that are not exact."""
    for mask in masks(seed, many):
        if seems_curved(mask):
            yield mask


def seems_curved(mask):
    """Whether Tr, done again and again, brings w near to nought, and both parts sum to 1."""
    if any(sum(number for place, number in numbers_of(mask).items() if place % 2 == part) != 1 for part in (0, 1)):
        return False
    sizes = {place: float(number) / 2 for place, number in numbers_of(product(mask, turned(mask))).items()}
    places = range(-max(sizes), max(sizes) + 1)
    # Squared so often, its power is far beyond a million.
    power = [[sizes.get(2 * place - at, 0.0) for at in places] for place in places]
    for _ in range(20):
        columns = list(zip(*power))
        power = [[sum(map(mul, line, column)) for column in columns] for line in power]
        led = [2 * line[max(sizes)] - line[max(sizes) - 1] - line[max(sizes) + 1] for line in power]
        if not max(abs(number) for number in led) < 1e60:
            return False
        if max(abs(number) for line in power for number in line) > 1e100:
            break
    return max(abs(number) for number in led) < 1e-3


class Halving(unittest.TestCase):
    def test_once(self):
        maker = Maker(321)
        for _ in range(40):
            mask, row = random_mask(maker, with_sums=False), maker.row(most=8)
            self.assertEqual(halved(mask, row), product(mask, spread(row)))
            self.assertEqual(halved(row=row, mask=mask), product(mask, spread(row)))

    def test_again_and_again(self):
        maker = Maker(322)
        for steps in range(7):
            mask, row = random_mask(maker, with_sums=False), maker.row(most=4)
            told = row
            for _ in range(steps):
                told = product(mask, spread(told))
            self.assertEqual(staircase(mask, row, steps), told)
            self.assertEqual(staircase(steps=steps, mask=mask, row=row), told)
        self.assertEqual(staircase(HAT, NOUGHT, 6), NOUGHT)

    def test_transfer(self):
        maker = Maker(323)
        for _ in range(60):
            mask, row = random_mask(maker, with_sums=False), maker.row(most=8)
            self.assertEqual(transfer(mask, row), transferred(mask, row))
            self.assertEqual(transfer(row=row, mask=mask), transferred(mask, row))
        self.assertEqual(transfer(BOX, (1000, (ONE,))), (500, (ONE,)))

    def test_what_is_a_mask(self):
        for many in range(13):
            self.assertIs(is_mask(row_of_numbers(0, *[1] * many)), 2 <= many <= 9)
        self.assertIs(is_mask((0, (ONE,) + (NIL,) * 7 + (ONE,))), True)
        self.assertIs(is_mask((0, (ONE,) + (NIL,) * 8 + (ONE,))), False)


class Rules(unittest.TestCase):
    def test_it_makes_nought_of_w_and_none_of_lesser_degree_does(self):
        for mask in masks(324, 80):
            rule = transfer_rule(mask)
            with self.subTest(mask=mask):
                self.assertEqual(transfer_rule(mask=mask), rule)
                self.assertEqual(rule[-1], ONE)
                self.assertGreater(len(rule), 1)
                self.assertEqual(by_rule(rule, mask, W), NOUGHT)
                self.assertEqual([pair_of(Fraction(*number)) for number in rule], list(rule))
                # Lesser ones do not: the rows that Tr makes of w, one after the other, are independent so far.
                self.assertEqual(rank_of(mask, len(rule) - 1), len(rule) - 1)

    def test_known_ones(self):
        # Of many boxes: w is taken to one part of itself.
        self.assertEqual(transfer_rule(BOX), ((-1, 2), ONE))
        self.assertEqual(transfer_rule(HAT), ((-1, 4), ONE))
        self.assertEqual(transfer_rule(CLEFT), ((-1, 2), (-1, 2), ONE))


def rank_of(mask, many):
    """How many of w, Tr w, .., so many of them, are independent."""
    rows, found = [], W
    for _ in range(many):
        rows.append(numbers_of(found))
        found = transferred(mask, found)
    rank = 0
    while rows:
        pivot = rows.pop()
        if not pivot:
            continue
        rank += 1
        place = next(iter(pivot))
        for at, row in enumerate(rows):
            factor = row.get(place, Fraction(0)) / pivot[place]
            left = {key: row.get(key, 0) - factor * pivot.get(key, 0) for key in {*row, *pivot}}
            rows[at] = {key: number for key, number in left.items() if number != 0}
    return rank


class Curves(unittest.TestCase):
    def test_whether_there_is_one(self):
        seen = {True: 0, False: 0}
        for mask in masks(325, 250):
            with self.subTest(mask=mask):
                told = seems_curved(mask)
                seen[told] += 1
                self.assertIs(has_curve(mask), told)
                self.assertIs(has_curve(mask=mask), told)
        self.assertGreater(min(seen.values()), 30)

    def test_the_edge_of_the_circle(self):
        # Roots of absolute value 1 are not inside: 1 itself, and others.
        self.assertIs(has_curve(CLEFT), False)
        self.assertIn(Fraction(0), [sum(Fraction(*number) for number in transfer_rule(CLEFT))])
        self.assertIs(has_curve(row_of_numbers(0, 1, 0, 0, 0, 0, 1)), False)
        # 1 / 2 times the least one that is too great, and a little less.
        for little, told in ((0, False), (Fraction(1, 10 ** 30), True), (Fraction(-1, 10 ** 30), False)):
            self.assertIs(has_curve(edge(little)), told)

    def test_both_parts_must_sum_to_one(self):
        # For the first two w is led to nought, but one of both parts sums to 1 / 2.
        for mask in (
            (0, (ONE, (1, 2))), (0, ((1, 2), ONE)), (0, (ONE, (2, 1))), (0, ((2, 1), ONE)), (0, ((1, 2), (1, 2))),
            (0, ((1, 3), (1, 3), (1, 3))),
        ):
            self.assertIs(has_curve(mask), False)
            self.assertIsNone(steepness(mask))

    def test_staircases_come_near_the_curve(self):
        # In the mean of squares the staircases of 5 and 6 halvings are near one another if there is a curve.
        for mask in curved(326, 60):
            wide, narrow = numbers_of(staircase(mask, UNIT, 5)), numbers_of(staircase(mask, UNIT, 6))
            apart = sum(
                (float(narrow.get(place, 0)) - float(wide.get(place // 2, 0))) ** 2
                for place in range(-2, 2 * max(wide) + 3)
            ) / 64
            first = sum(
                (float(numbers_of(mask).get(place, 0)) - (1 if place in (0, 1) else 0)) ** 2 for place in range(-2, 12)
            ) / 2
            self.assertLess(apart, max(first, 1e-12))


def edge(little):
    """A mask 1/2 + a, 1 - b .. whose w is led to a multiple of itself that is 1, or a little less or more."""
    # 2 * ((1 + z) / 2) times q: w is led to the even part of q q~ w (of places -1, 0, 1) / 2; q = (s, 1 - s), s = 1 + r.
    # Tr w = (s s + (1 - s) (1 - s)) / 2 * w, which is 1 if 2 s s - 2 s = 1; s is taken by squares to be just that.
    low, high = Fraction(1), Fraction(2)
    for _ in range(300):
        middle = (low + high) / 2
        if 2 * middle * middle - 2 * middle < 1:
            low = middle
        else:
            high = middle
    part = low - little if little > 0 else high - little
    return product(BOX, row_of_numbers(0, part, 1 - part))


class InnerProducts(unittest.TestCase):
    def test_what_tells_them(self):
        found = 0
        for mask in curved(327, 200):
            found += 1
            with self.subTest(mask=mask):
                row = inner_products(mask)
                self.assertEqual(inner_products(mask=mask), row)
                self.assertEqual(transferred(mask, row), row)
                self.assertEqual(sum(numbers_of(row).values()), 1)
                self.assertEqual(turned(row), row)
                self.assertLess(max(numbers_of(row)), max(1, len(mask[1]) - 1))
                self.assertIs(has_right_angles(mask), row == UNIT)
                self.assertIs(has_right_angles(mask=mask), row == UNIT)
        self.assertGreater(found, 30)

    def test_by_staircases(self):
        for mask in (HAT, ANGLED, spline(4), interpolating(2)):
            stairs = {place: float(number) for place, number in numbers_of(staircase(mask, UNIT, 6)).items()}
            told = numbers_of(inner_products(mask))
            for apart in range(-3, 4):
                near = sum(number * stairs.get(place - 64 * apart, 0.0) for place, number in stairs.items()) / 64
                self.assertAlmostEqual(near, float(told.get(apart, 0)), delta=0.02)

    def test_splines(self):
        # The inner products of a curve of n boxes are the values of that of 2 n boxes at whole places.
        for many in range(1, 9):
            told = {place: spline_at(2 * many, many + place) for place in range(1 - many, many)}
            self.assertEqual(inner_products(spline(many)), row_with(told))
            self.assertIs(has_right_angles(spline(many)), many == 1)

    def test_right_angles(self):
        self.assertEqual(row_by(lambda place, x: x(2 * place), product(ANGLED, turned(ANGLED))), (0, ((2, 1),)))
        self.assertEqual(inner_products(ANGLED), UNIT)
        self.assertIs(has_right_angles(ANGLED), True)


class Moments(unittest.TestCase):
    def test_as_told(self):
        for mask in curved(328, 80):
            numbers, told = numbers_of(mask), [Fraction(1)]
            for order in range(1, 9):
                total_of = sum(
                    comb(order, low) * told[low] * sum(number * place ** (order - low) for place, number in numbers.items())
                    for low in range(order)
                )
                told.append(total_of / 2 / (2 ** order - 1))
            with self.subTest(mask=mask):
                self.assertEqual([curve_moment(mask, order) for order in range(9)], [pair_of(number) for number in told])
                self.assertEqual(curve_moment(order=3, mask=mask), pair_of(told[3]))

    def test_of_the_box(self):
        self.assertEqual([curve_moment(BOX, order) for order in range(9)], [(1, order + 1) for order in range(9)])

    def test_by_staircases(self):
        for mask in (HAT, ANGLED, spline(3)):
            stairs = numbers_of(staircase(mask, UNIT, 6))
            for order in range(4):
                near = sum(float(number) * (place / 64) ** order for place, number in stairs.items()) / 64
                self.assertAlmostEqual(near, float(Fraction(*curve_moment(mask, order))), delta=0.1 * 2 ** order)


class Steepness(unittest.TestCase):
    def test_splines(self):
        for many in range(1, 9):
            self.assertEqual(steepness(spline(many)), many - 1)
            self.assertEqual(steepness(mask=spline(many)), many - 1)

    def test_as_told(self):
        seen = set()
        for mask in list(masks(329, 150)) + [product(BOX, times(Fraction(1, 2), mask)) for mask in masks(330, 60)]:
            if not is_mask(mask):
                continue
            orders, rest = [], mask
            for order in range(9):
                if is_mask(rest) and seems_curved(rest):
                    orders.append(order)
                rest = divided(rest)
                if rest is None:
                    break
            with self.subTest(mask=mask):
                self.assertEqual(steepness(mask), max(orders, default=None))
                # It is steep of all lesser orders, too.
                self.assertEqual(orders, list(range(len(orders))))
            seen.add(steepness(mask))
        self.assertLessEqual({None, 0, 1, 2, 7}, seen)

    def test_the_quotient_may_have_no_curve(self):
        # (1 + z) divides CLEFT, and what is left has none; nor has CLEFT itself.
        self.assertIsNone(steepness(CLEFT))
        wide = product(BOX, times(Fraction(1, 2), CLEFT))
        self.assertEqual(steepness(wide), 0 if has_curve(wide) else None)
        self.assertEqual(steepness(ANGLED), 0)


def divided(mask):
    """The quotient of a mask by 1 + z times 2; None if there is none."""
    numbers = numbers_of(mask)
    out, rest = {}, Fraction(0)
    for place in range(max(numbers) + 1):
        rest = numbers.get(place, Fraction(0)) - rest
        out[place] = 2 * rest
    return row_with(out) if rest == 0 else None


class Numbers(unittest.TestCase):
    def test_splines(self):
        for many in range(2, 9):
            for steps in range(7):
                for place in (-1, 0, 1, 3, 2 ** steps, 2 ** steps + 1, many * 2 ** steps - 1, many * 2 ** steps, 999):
                    told = pair_of(spline_at(many, Fraction(place, 2 ** steps)))
                    if not 0 < place < many * 2 ** steps:
                        told = NIL
                    self.assertEqual(curve_at(spline(many), place, steps), told, (many, place, steps))
        self.assertEqual(curve_at(steps=1, place=1, mask=HAT), (1, 2))

    def test_as_the_mask_leads_them(self):
        # f(t) is the sum of m_k f(2 t - k), and all numbers at whole places sum to 1.
        found = 0
        for mask in curved(331, 200):
            if steepness(mask) == 0:
                continue
            found += 1
            last = len(mask[1]) - 1
            with self.subTest(mask=mask):
                at = lambda place, steps: Fraction(*curve_at(mask, place, steps))
                self.assertEqual(sum(at(place, 0) for place in range(last + 1)), 1)
                for place, steps in ((1, 0), (2, 0), (3, 1), (5, 1), (3, 2), (9, 2), (11, 3)):
                    # 2 * place / 2 ** steps is a place of one halving less.
                    told = sum(
                        number * at(2 * place - k * 2 ** steps, steps) for k, number in numbers_of(mask).items()
                    )
                    self.assertEqual(at(place, steps), told)
                    if steps < 6:
                        self.assertEqual(at(place, steps), at(2 * place, steps + 1))
        self.assertGreater(found, 6)

    def test_interpolating_masks(self):
        # Their curves have 1 at one whole place, and 0 at all others.
        for order in (1, 2):
            mask = interpolating(order)
            middle = 2 * order - 1
            for place in range(-3, 12):
                self.assertEqual(curve_at(mask, place, 0), ONE if place == middle else NIL)
        self.assertEqual(curve_at(interpolating(2), 2 * 3 + 1, 1), (9, 16))
        self.assertEqual(curve_at(interpolating(2), 2 * 3 - 3, 1), (-1, 16))

    def test_far_places(self):
        for place in (-HUGE, HUGE, -1, 2 * 64, 10 ** 3000):
            self.assertEqual(curve_at(HAT, place, 6), NIL)
        self.assertEqual(curve_at(HAT, 127, 6), (1, 64))


class HugeNumbers(unittest.TestCase):
    def test_small_changes_are_seen(self):
        little = Fraction(1, HUGE)
        near = total(HAT, row_of_numbers(0, little, 0, -little))
        self.assertIs(has_curve(near), True)
        self.assertEqual(steepness(near), 0)
        self.assertEqual(transferred(near, inner_products(near)), inner_products(near))
        self.assertIs(has_curve(total(HAT, row_of_numbers(0, little, 0, little))), False)
        smooth = product(BOX, times(Fraction(1, 2), near))
        self.assertEqual(steepness(smooth), 1)
        # The mask's numbers at 1 and 2 are all that lead the curve's there.
        first, second = (Fraction(*curve_at(smooth, place, 0)) for place in (1, 2))
        numbers = numbers_of(smooth)
        self.assertEqual((first + second, numbers[1] * first + numbers[0] * second), (1, first))


if __name__ == "__main__":
    unittest.main()
