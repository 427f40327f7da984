"""Points 2 and 39: claims that are so, each with a paper that the checker accepts."""

import unittest
from fractions import Fraction

from bandsplits.certificates import (
    certify_between, certify_curve, certify_flat, certify_keeper, certify_loss, certify_partner, certify_rounding,
    certify_telling,
)
from bandsplits.checker import accepts
from bandsplits.circle import shares_between
from bandsplits.flats import flatness_of
from bandsplits.losses import joiner_of, loss_word
from bandsplits.masks import has_curve
from bandsplits.partners import partner_bar
from bandsplits.readings import do_tell
from bandsplits.turns import energy_factor, turns_of
from bandsplits.wholes import least_multiple
from kinds import splitters
from samples import (
    EVEN_SCALE, GAPS_ROW, NIL, NOUGHT, ONE, SUMS_ROW, UNIT, Maker, pair_of, product, row_of_numbers, share_of, shifted,
    spread,
)

NOTHING = (NOUGHT, NOUGHT)


class Certificates(unittest.TestCase):
    def certified(self, word, told, papers_made, excluded):
        """Look whether what was made is a claim with this word, and a paper that is for it, and for no other word."""
        self.assertIs(type(papers_made), tuple)
        claim, paper = papers_made
        self.assertEqual(claim, (word,) + told)
        self.assertIs(accepts(claim, paper), True)
        for other in excluded:
            if other != word:
                self.assertIs(accepts((other,) + told, paper), False)

    def test_losses(self):
        words = {"nothing": "nothing lost", "finite": "finite lost", "endless": "endless lost"}
        seen = set()
        for splitter in splitters(361, 20):
            word = loss_word(splitter)
            seen.add(word)
            with self.subTest(splitter=splitter):
                made = certify_loss(splitter)
                self.certified(words[word], (splitter,), made, words.values())
                self.assertEqual(certify_loss(splitter=splitter), made)
                if word == "nothing":
                    self.assertEqual(made[1], joiner_of(splitter))
        self.assertEqual(seen, set(words))

    def test_shares(self):
        maker = Maker(362)
        seen = set()
        for splitter in splitters(363, 12):
            for _ in range(3):
                low, high = sorted([Fraction(maker.random.randint(-2, 9), 2), Fraction(maker.random.randint(0, 30), 2)])
                low, high = pair_of(low), pair_of(high)
                told = shares_between(splitter, low, high)
                seen.add(told)
                with self.subTest(splitter=splitter, low=low, high=high):
                    made = certify_between(splitter, low, high)
                    word = "between" if told else "not between"
                    self.certified(word, (splitter, low, high), made, ("between", "not between"))
                    self.assertEqual(certify_between(high=high, low=low, splitter=splitter), made)
        self.assertEqual(seen, {True, False})

    def test_keepers(self):
        seen = set()
        for splitter in splitters(364, 30):
            keeper = energy_factor(splitter) is not None
            seen.add(keeper)
            with self.subTest(splitter=splitter):
                made = certify_keeper(splitter)
                self.certified("keeper" if keeper else "no keeper", (splitter,), made, ("keeper", "no keeper"))
                self.assertEqual(certify_keeper(splitter=splitter), made)
                if keeper:
                    self.assertEqual(made[1], turns_of(splitter))
                else:
                    first, second = [share_of(splitter, row) for row in made[1]]
                    self.assertTrue(first != second or first == 0)
        self.assertEqual(seen, {True, False})

    def test_no_keepers_by_each_reason(self):
        # Single rows at even and odd places have unlike shares; or they lean on others at even, odd, or both places.
        for splitter in (
            (UNIT, NOUGHT), (UNIT, (1, ((2, 1),))), (row_of_numbers(0, 1, 0, 2), row_of_numbers(1, 2, 0, 1)),
            (row_of_numbers(0, 1, 0, 1), (1, ((1, 1), NIL, (1, 1)))), ((0, ((3, 5), NIL, (4, 5))), (1, (ONE,))),
            (UNIT, (-1, ((3, 5), NIL, (4, 5)))), ((NOUGHT, (-999, ((3, 5), NIL, NIL, NIL, (-4, 5))))),
            ((1, (ONE,)), (-20, ((3, 5), NIL, NIL, NIL, (-4, 5)))), (row_of_numbers(0, 3, 4), row_of_numbers(0, 4, 3)),
            (row_of_numbers(0, 3, 4), row_of_numbers(5, 3, 0, 0, 4)), (SUMS_ROW, SUMS_ROW), NOTHING,
            ((0, (ONE, NIL, NIL, NIL, NIL, NIL, NIL, ONE)), (0, (ONE, ONE))), (row_of_numbers(0, 2, 1), row_of_numbers(-9, 1, 2)),
        ):
            with self.subTest(splitter=splitter):
                self.assertIsNone(energy_factor(splitter))
                self.certified("no keeper", (splitter,), certify_keeper(splitter), ("keeper",))

    def test_partners(self):
        maker = Maker(365)
        seen = set()
        rows = [maker.row(most=5) for _ in range(80)] + [spread(maker.row(most=4)) for _ in range(20)]
        for row in rows + [NOUGHT, UNIT, SUMS_ROW, (0, (ONE, NIL, ONE)), row_of_numbers(-1000, *range(1, 25))]:
            word = "partner" if partner_bar(row) is None else "no partner"
            seen.add(word)
            with self.subTest(row=row):
                made = certify_partner(row)
                self.certified(word, (row,), made, ("partner", "no partner"))
                self.assertEqual(certify_partner(row=row), made)
        self.assertEqual(len(seen), 2)
        self.assertEqual(certify_partner(NOUGHT), (("no partner", NOUGHT), NOUGHT))

    def test_flat_rows(self):
        row = UNIT
        for flatness in range(10):
            self.assertEqual(flatness_of(row), flatness)
            for order in range(9):
                word = "flat" if order <= flatness else "not flat"
                made = certify_flat(row, order)
                self.assertEqual(made, ((word, row, order), ()))
                self.certified(word, (row, order), made, ("flat", "not flat"))
                self.assertEqual(certify_flat(order=order, row=row), made)
                self.assertEqual(certify_flat(NOUGHT, order), (("flat", NOUGHT, order), ()))
            row = product(row, GAPS_ROW)

    def test_curves(self):
        for mask in (
            (0, (ONE, ONE)), (0, ((1, 2), ONE, (1, 2))), (0, (ONE, NIL, NIL, ONE)), (0, (ONE, (2, 1))),
            row_of_numbers(0, Fraction(6, 10), Fraction(12, 10), Fraction(4, 10), Fraction(-2, 10)),
            row_of_numbers(0, 3, 1, -2), row_of_numbers(0, *[Fraction(1, 4)] * 8),
        ):
            word = "curve" if has_curve(mask) else "no curve"
            made = certify_curve(mask)
            self.assertEqual(made, ((word, mask), ()))
            self.certified(word, (mask,), made, ("curve", "no curve"))
            self.assertEqual(certify_curve(mask=mask), made)

    def test_telling(self):
        maker = Maker(366)
        pairs = [maker.pair(most=3, reach=2) for _ in range(80)]
        pairs += [(row, product(row, spread(other))) for row, other in pairs] + [(NOUGHT, UNIT), (UNIT, NOUGHT), NOTHING]
        seen = set()
        for row, other in pairs:
            word = "telling" if do_tell(row, other) else "not telling"
            seen.add(word)
            with self.subTest(row=row, other=other):
                made = certify_telling(row, other)
                self.certified(word, (row, other), made, ("telling", "not telling"))
                self.assertEqual(certify_telling(other=other, row=row), made)
        self.assertEqual(len(seen), 2)

    def test_rounding(self):
        maker = Maker(367)
        seen = set()
        for number in range(80):
            steps = tuple(
                (maker.random.choice(("low", "high")), maker.row(most=3, reach=3)) for _ in range(number % 5)
            )
            scale = tuple(((maker.random.choice((1, -1)), 1), maker.random.randint(-3, 3)) for _ in "ab")
            least = least_multiple((steps, scale))
            for many in {1, 2, 3, 12, least, 2 * least, max(1, least // 2), max(1, least // 3)}:
                if many > 10 ** 12:
                    continue
                word = "never rounded" if many % least == 0 else "rounded"
                seen.add(word)
                with self.subTest(steps=steps, scale=scale, many=many):
                    made = certify_rounding((steps, scale), many)
                    self.certified(word, ((steps, scale), many), made, ("never rounded", "rounded"))
                    self.assertEqual(certify_rounding(many=many, ladder=(steps, scale)), made)
        self.assertEqual(len(seen), 2)
        # A step of odd places alone, and one behind steps that round nothing.
        for steps in ((("low", (0, ((1, 2),))),), (("high", UNIT), ("low", (0, ((2, 1),))), ("high", (3, ((1, 3),))))):
            made = certify_rounding((steps, EVEN_SCALE), 1)
            self.certified("rounded", ((steps, EVEN_SCALE), 1), made, ("never rounded",))
            self.certified("never rounded", ((steps, EVEN_SCALE), 6), certify_rounding((steps, EVEN_SCALE), 6), ())

    def test_long_rows(self):
        maker = Maker(368)
        draw = maker.random.randint
        for _ in range(3):
            low, high = [
                row_of_numbers(draw(-1000, 900), *[Fraction(draw(1, 99), draw(1, 3)) for _ in range(24)]) for _ in "ab"
            ]
            for made in (
                certify_loss((low, high)), certify_loss((low, low)), certify_keeper((low, high)), certify_partner(low),
                certify_between((low, high), NIL, (10 ** 9, 1)), certify_between((low, high), ONE, (2, 1)),
                certify_telling(low, high), certify_telling(low, shifted(low, 4)), certify_flat(low, 8),
            ):
                self.assertIs(accepts(*made), True, made[0][0])


if __name__ == "__main__":
    unittest.main()
