"""Points 1 and 2: all parts of the program tell the same of the same splitter."""

import inspect
import re
import unittest
from fractions import Fraction
from importlib import import_module
from pathlib import Path

from bandsplits.certificates import (
    certify_between, certify_curve, certify_keeper, certify_loss, certify_partner, certify_telling,
)
from bandsplits.checker import accepts
from bandsplits.circle import breaking_cosine, greatest_share, least_share, loses_bounded, shares_between
from bandsplits.consoles import Console
from bandsplits.errors import Broken
from bandsplits.flats import flatness_of, silences
from bandsplits.ladders import climbed, climbed_back, ladder_of, splitter_of, undoing_joiner
from bandsplits.losses import channel_values, joiner_of, loss_word, lost_endless, lost_row
from bandsplits.masks import has_curve, has_right_angles
from bandsplits.partners import is_partner, partner_bar
from bandsplits.readings import do_tell, splitter_for, splitter_read
from bandsplits.splitters import delay_of, determinant_of, join, split, splitter_with, table_between, table_of
from bandsplits.trees import leaf_rows, tree_channels, tree_joined
from bandsplits.turns import energy_factor, is_keeper, keeper_with, splitter_by_turns, turns_of
from bandsplits.workshops import Workshop
from kinds import splitters
from samples import (
    HAAR_PAIR, NIL, NOUGHT, ONE, Maker, energy, pair_of, product, raised, row_of_numbers, share_of, spread, total,
)

TREES = (None, (None, None), ((None, None), None), (None, ((None, None), (None, None))), ((None, (None, None)), None))

# The interface: the modules, and what stands in each of them, with its parameters.
INTERFACE = {
    "rows": "is_row(value) row_of(start,numbers) number_at(row,place) added(row,other) multiplied(row,other) "
    "later(row,places) turned_round(row) alternated(row) even_part(row) odd_part(row) woven(row,other) "
    "quotient(row,other) common_factor(row,other)",
    "splitters": "split(splitter,row) join(joiner,channels) table_of(splitter) splitter_with(table) "
    "determinant_of(splitter) delay_of(splitter,joiner) table_between(splitter,other)",
    "losses": "loss_word(splitter) joiner_of(splitter) lost_row(splitter) is_endless(value) value_at(endless,place) "
    "channel_values(splitter,endless,place) lost_endless(splitter)",
    "circle": "size_at(row,cosine) touches_circle(row) circle_zeros(row) sizes_between(row,low,high) "
    "loses_bounded(splitter) shares_between(splitter,low,high) breaking_cosine(splitter,low,high) "
    "least_share(splitter,many) greatest_share(splitter,many)",
    "turns": "is_turns(value) energy_factor(splitter) is_keeper(splitter) turns_of(splitter) splitter_by_turns(turns) "
    "keeper_with(row)",
    "flats": "flatness_of(row) roundness_of(row) silences(row,many) carries(row,many) on_power(row,order) "
    "symmetry_of(row) is_half_band(row) flattest_half_band(order)",
    "ladders": "is_ladder(value) splitter_of(ladder) ladder_of(splitter) climbed(ladder,row) "
    "climbed_back(ladder,channels) undoing_joiner(ladder) step_to(splitter,other)",
    "wholes": "split_whole(ladder,row) join_whole(ladder,channels) least_multiple(ladder) is_rounded(ladder,row) "
    "rounding_bounds(ladder)",
    "partners": "partner_of(row) partner_bar(row) is_partner(row,other) partner_by(row,other,factor,places,step) "
    "partner_parts(row,other,third) flat_partner(row,many)",
    "readings": "do_tell(row,other) splitter_for(row,channels) splitter_read(row,channels,other,others) "
    "unlike_splitter(splitter,row,other)",
    "trees": "is_tree(value) leaf_rows(splitter,tree) tree_channels(splitter,tree,row) "
    "tree_joined(joiner,tree,channels) fewest_tree(splitter,row,many) fewest_numbers(splitter,row,many)",
    "masks": "is_mask(value) halved(mask,row) staircase(mask,row,steps) transfer(mask,row) transfer_rule(mask) "
    "has_curve(mask) inner_products(mask) has_right_angles(mask) curve_moment(mask,order) steepness(mask) "
    "curve_at(mask,place,steps)",
    "workshops": "Workshop()",
    "consoles": "Console(shop)",
    "checker": "accepts(claim,paper)",
    "certificates": "certify_loss(splitter) certify_between(splitter,low,high) certify_keeper(splitter) "
    "certify_partner(row) certify_flat(row,order) certify_curve(mask) certify_telling(row,other) "
    "certify_rounding(ladder,many)",
}


class Whole(unittest.TestCase):
    def test_each_name_is_defined_in_its_file(self):
        for module, listed in INTERFACE.items():
            found = import_module(f"bandsplits.{module}")
            for text in listed.split():
                name, parameters = text[:-1].split("(")
                defined = getattr(found, name)
                self.assertEqual((defined.__module__, defined.__name__), (f"bandsplits.{module}", name))
                told = [parameter for parameter in inspect.signature(defined).parameters]
                self.assertEqual(told, [parameter for parameter in parameters.split(",") if parameter])

    def test_the_readme_names_all_of_them(self):
        text = (Path(__file__).resolve().parent.parent / "README.md").read_text(encoding="ascii")
        for module, listed in INTERFACE.items():
            self.assertIn(f"| `bandsplits.{module}` |", text)
            for name in re.findall(r"(\w+)\(", listed):
                self.assertIn(f"`{name}`", text)

    def test_nothing_lost(self):
        maker = Maker(371)
        for splitter in splitters(372, 20):
            word, row = loss_word(splitter), maker.row(most=7)
            lossless = word == "nothing"
            with self.subTest(splitter=splitter, row=row):
                joiner, ladder, channels = joiner_of(splitter), ladder_of(splitter), split(splitter, row)
                self.assertIs(joiner is not None, lossless)
                self.assertIs(ladder is not None, lossless)
                self.assertIs(is_partner(splitter[0], splitter[1]), lossless)
                self.assertIs(len(determinant_of(splitter)[1]) == 1, lossless)
                self.assertIs(lost_endless(splitter) is None, lossless)
                self.assertIs(lost_row(splitter) is not None, word == "finite")
                self.assertEqual(splitter_with(table_of(splitter)), splitter)
                if not lossless:
                    continue
                self.assertIs(loses_bounded(splitter), False)
                self.assertIsNone(partner_bar(splitter[0]))
                self.assertIsNone(partner_bar(splitter[1]))
                self.assertEqual(delay_of(splitter, joiner), 0)
                self.assertEqual(join(joiner, channels), row)
                self.assertEqual(splitter_of(ladder), splitter)
                self.assertEqual(undoing_joiner(ladder), joiner)
                self.assertEqual(climbed(ladder, row), channels)
                self.assertEqual(climbed_back(ladder, channels), row)
                for tree in TREES:
                    self.assertEqual(tree_joined(joiner, tree, tree_channels(splitter, tree, row)), row)
                self.assertIsNotNone(table_between(HAAR_PAIR, splitter))
                back = table_between(splitter, HAAR_PAIR)
                low, high = [split(HAAR_PAIR, row)[at] for at in (0, 1)]
                self.assertEqual(low, total(product(back[0][0], channels[0]), product(back[0][1], channels[1])))
                self.assertEqual(high, total(product(back[1][0], channels[0]), product(back[1][1], channels[1])))

    def test_something_lost(self):
        for splitter in splitters(373, 20):
            word = loss_word(splitter)
            with self.subTest(splitter=splitter):
                if word == "finite":
                    row = lost_row(splitter)
                    self.assertEqual(split(splitter, row), (NOUGHT, NOUGHT))
                    for tree in TREES[1:]:
                        self.assertEqual(set(tree_channels(splitter, tree, row)), {NOUGHT})
                    self.assertIs(shares_between(splitter, ONE, (10 ** 6, 1)), False)
                    self.assertIs(loses_bounded(splitter), True)
                if word != "nothing":
                    gone = lost_endless(splitter)
                    for place in range(-5, 6):
                        self.assertEqual(channel_values(splitter, gone, place), (NIL, NIL))
                # The least share is 0 exactly if a bounded endless row is lost.
                if loses_bounded(splitter):
                    self.assertEqual(least_share(splitter, 10 ** 12), 0)

    def test_keepers(self):
        maker = Maker(374)
        for splitter in splitters(375, 20):
            factor, row = energy_factor(splitter), maker.row(most=7, noughts=False)
            with self.subTest(splitter=splitter, row=row):
                self.assertIs(is_keeper(splitter), factor is not None)
                self.assertIs(turns_of(splitter) is not None, factor is not None)
                claim, paper = certify_keeper(splitter)
                self.assertEqual(claim[0], "no keeper" if factor is None else "keeper")
                if factor is None:
                    continue
                self.assertEqual(splitter_by_turns(turns_of(splitter)), splitter)
                self.assertEqual(share_of(splitter, row), Fraction(*factor))
                self.assertIs(shares_between(splitter, factor, factor), True)
                self.assertEqual(loss_word(splitter), "nothing")
                for many in (1, 7, 1000):
                    told = many * factor[0] // factor[1]
                    self.assertEqual((least_share(splitter, many), greatest_share(splitter, many)), (told, told))
                self.assertEqual(keeper_with(splitter[0])[0], splitter[0])
                # A tree of a keeper multiplies the energy of each leaf by the factor as often as it is deep.
                low, high = tree_channels(splitter, (None, None), row)
                self.assertEqual(energy(low) + energy(high), energy(row) * Fraction(*factor))

    def test_shares(self):
        maker = Maker(376)
        for splitter in splitters(377, 10):
            least, greatest = least_share(splitter, 1000), greatest_share(splitter, 1000)
            with self.subTest(splitter=splitter):
                outer = (pair_of(Fraction(least, 1000)), pair_of(Fraction(greatest + 1, 1000)))
                self.assertIs(shares_between(splitter, *outer), True)
                self.assertIsNone(breaking_cosine(splitter, *outer))
                self.assertTrue(accepts(*certify_between(splitter, *outer)))
                for low, high in (
                    (Fraction(least + 1, 1000), Fraction(greatest + 1, 1000)), (Fraction(-1), Fraction(greatest - 1, 1000)),
                ):
                    if low <= high:
                        claim, paper = certify_between(splitter, pair_of(low), pair_of(high))
                        self.assertEqual(claim[0], "not between")
                        self.assertTrue(accepts(claim, paper))
                for _ in range(3):
                    share = share_of(splitter, maker.row(most=9, noughts=False))
                    self.assertTrue(Fraction(least, 1000) <= share <= Fraction(greatest + 1, 1000))

    def test_papers(self):
        for splitter in splitters(378, 15):
            with self.subTest(splitter=splitter):
                claim, paper = certify_loss(splitter)
                self.assertEqual(claim[0].split()[0], loss_word(splitter))
                for made in (
                    (claim, paper), certify_keeper(splitter), certify_between(splitter, ONE, (2, 1)),
                    certify_partner(splitter[0]), certify_telling(splitter[0], splitter[1]),
                ):
                    self.assertIs(accepts(*made), True)

    def test_readings(self):
        maker = Maker(379)
        for splitter in splitters(380, 10):
            row, other = maker.row(most=5), maker.row(most=5)
            channels, others = split(splitter, row), split(splitter, other)
            with self.subTest(splitter=splitter, row=row, other=other):
                found = splitter_read(row, channels, other, others)
                self.assertEqual((split(found, row), split(found, other)), (channels, others))
                if do_tell(row, other):
                    self.assertEqual(found, splitter)
                self.assertEqual(split(splitter_for(row, channels), row), channels)

    def test_workshops(self):
        for splitter in splitters(381, 8):
            shop = Workshop()
            shop.put("it", splitter)
            console = Console(shop)
            with self.subTest(splitter=splitter):
                self.assertEqual(console.say("word it"), loss_word(splitter))
                self.assertEqual(console.say(f"put copy: {console.say('splitter it')}"), "done")
                self.assertEqual(shop.named("copy"), splitter)
                for wish, told in (
                    (("lossless", "it"), loss_word(splitter) == "nothing"), (("keeper", "it"), is_keeper(splitter)),
                    (("between", "it", NIL, (3, 1)), shares_between(splitter, NIL, (3, 1))),
                    (("flat", "it", 1), silences(splitter[1], 1)),
                ):
                    error = raised(shop.wish, wish)
                    self.assertIs(error is None, told)
                    self.assertTrue(told or type(error) is Broken)

    def test_halving_by_the_rows_of_a_keeper(self):
        # A mask of a keeper with factor 2 that has a curve, and this one's shifts stand at right angles.
        mask = row_of_numbers(0, Fraction(6, 10), Fraction(12, 10), Fraction(4, 10), Fraction(-2, 10))
        keeper = keeper_with(mask)
        self.assertEqual(energy_factor(keeper), (2, 1))
        self.assertIs(has_curve(mask), True)
        self.assertIs(has_right_angles(mask), True)
        self.assertTrue(accepts(*certify_curve(mask)))
        self.assertGreaterEqual(flatness_of(keeper[1]), 1)
        self.assertEqual(leaf_rows(keeper, ((None, None), None))[0], (product(mask, spread(mask)), 2))

    def test_equal_calls_return_equal_results(self):
        for splitter in splitters(382, 4):
            for function in (loss_word, joiner_of, lost_row, lost_endless, ladder_of, turns_of, certify_loss, certify_keeper):
                self.assertEqual(function(splitter), function(splitter))
                # What was returned may be passed again.
                self.assertEqual(function((splitter[0], splitter[1])), function(splitter))


if __name__ == "__main__":
    unittest.main()
