"""The document's examples, to the letter."""

import doctest
import re
import unittest

EXAMPLES = """
>>> from bandsplits.rows import added, alternated, common_factor, even_part, is_row, later, multiplied, number_at, odd_part, quotient, row_of, turned_round, woven
>>> from bandsplits.splitters import delay_of, determinant_of, join, split, splitter_with, table_of
>>> from bandsplits.losses import channel_values, joiner_of, loss_word, lost_endless, lost_row, value_at
>>> nil, half, one, two, less = (0, 1), (1, 2), (1, 1), (2, 1), (-1, 1)
>>> unit, sums, gaps, song = (0, (one,)), (0, (one, one)), (0, (one, less)), (0, ((5, 1), (3, 1), (8, 1)))
>>> [row_of(-1, ((0, 1), (1, 2), (0, 1))), is_row((0, ((0, 1),))), number_at(song, 2), added(sums, gaps), multiplied(sums, gaps), later(unit, -2), turned_round(song), alternated(song)]
[(0, ((1, 2),)), False, (8, 1), (0, ((2, 1),)), (0, ((1, 1), (0, 1), (-1, 1))), (-2, ((1, 1),)), (-2, ((8, 1), (3, 1), (5, 1))), (0, ((5, 1), (-3, 1), (8, 1)))]
>>> [even_part(song), odd_part(song), woven(unit, gaps), quotient(multiplied(sums, gaps), sums), quotient(unit, sums), common_factor(multiplied(sums, gaps), multiplied(sums, sums))]
[(0, ((5, 1), (8, 1))), (0, ((3, 1),)), (0, ((1, 1), (1, 1), (0, 1), (-1, 1))), (0, ((1, 1), (-1, 1))), None, (0, ((1, 1), (1, 1)))]
>>> haar = (sums, gaps)
>>> [split(haar, song), table_of(haar)[1], determinant_of(haar), splitter_with(table_of(haar)) == haar]
[((0, ((5, 1), (11, 1))), (0, ((5, 1), (5, 1)))), ((0, ((1, 1),)), (1, ((-1, 1),))), (1, ((-2, 1),)), True]
>>> back = joiner_of(haar)
>>> [back, join(back, split(haar, song)) == song, delay_of(haar, back), delay_of(haar, (later(back[0], 3), later(back[1], 3))), delay_of(haar, haar)]
[((-1, ((1, 2), (1, 2))), (-1, ((-1, 2), (1, 2)))), True, 0, 3, None]
>>> thin = ((0, ((1, 1), (0, 1), (1, 1))), (1, ((1, 1),)))
>>> [loss_word(haar), loss_word(thin), loss_word((sums, sums)), split((sums, sums), lost_row((sums, sums))), lost_row(thin), joiner_of(thin)]
['nothing', 'endless', 'finite', ((0, ()), (0, ())), None, None]
>>> hares, gone = (((1, 1), (-1, 1), (-1, 1)), ((0, 1), (1, 1))), lost_endless(thin)
>>> [value_at(hares, 10), value_at(hares, -1), channel_values(haar, hares, 3), channel_values(thin, gone, 5), value_at(gone, 0) == (0, 1) and value_at(gone, 1) == (0, 1)]
[(55, 1), (1, 1), ((13, 1), (3, 1)), ((0, 1), (0, 1)), False]

What the document works out by hand here.

>>> multiplied(sums, song)
(0, ((5, 1), (8, 1), (11, 1), (8, 1)))
>>> [table_of(thin), determinant_of(thin)]
[(((0, ((1, 1), (1, 1))), (0, ())), ((0, ()), (1, ((1, 1),)))), (1, ((1, 1), (1, 1)))]

The circle.

>>> from bandsplits.circle import breaking_cosine, circle_zeros, greatest_share, least_share, loses_bounded, shares_between, size_at, sizes_between, touches_circle
>>> stay, lean = (unit, (1, (one, nil, one))), (unit, (1, (one, one)))
>>> [size_at(sums, one), size_at(sums, (-2, 1)), touches_circle(sums), touches_circle((0, (two, one))), circle_zeros((0, (one, one, one))), circle_zeros(sums), circle_zeros((0, ()))]
[(3, 1), (0, 1), True, False, 2, 1, 'all']
>>> [sizes_between(sums, nil, (4, 1)), sizes_between(sums, nil, (3, 1)), loses_bounded(haar), loses_bounded(stay), shares_between(haar, two, two), shares_between(stay, nil, (4, 1)), shares_between(stay, nil, (3, 1)), breaking_cosine(stay, nil, (4, 1))]
[True, False, False, True, True, True, False, None]
>>> [least_share(haar, 10), greatest_share(haar, 10), least_share(stay, 10), greatest_share(stay, 10), least_share(lean, 1000), greatest_share(lean, 1000)]
[20, 20, 0, 40, 381, 2618]
>>> [table_of(stay), table_of(lean)]
[(((0, ((1, 1),)), (0, ())), ((0, ()), (1, ((1, 1), (1, 1))))), (((0, ((1, 1),)), (0, ())), ((1, ((1, 1),)), (1, ((1, 1),))))]

Turns.

>>> from bandsplits.turns import energy_factor, is_keeper, is_turns, keeper_with, splitter_by_turns, turns_of
>>> plain = ((one, nil), (nil, one))
>>> [energy_factor(haar), energy_factor(stay), is_keeper(haar), turns_of(stay), keeper_with(sums) == haar, keeper_with((0, (one, one, one)))]
[(2, 1), None, True, None, True, None]
>>> turns_of(haar)
(0, ((1, -1),), (((1, 1), (1, 1)), ((1, 1), (-1, 1))))
>>> splitter_by_turns((0, ((1, 0),), plain))
((2, ((1, 1),)), (-1, ((1, 1),)))
>>> sixes = splitter_by_turns((0, ((1, -1), (2, 1)), plain))
>>> sixes
((-1, ((1, 5), (-1, 10), (-3, 10), (9, 10), (1, 10), (1, 5))), (-1, ((1, 5), (-1, 10), (9, 10), (3, 10), (-1, 10), (-1, 5))))
>>> [turns_of(sixes) == (0, ((1, -1), (2, 1)), plain), energy_factor(sixes), is_turns((0, ((1, -1), (1, 1)), plain)), is_turns((0, ((2, 2),), plain))]
[True, (1, 1), False, False]

Flat rows.

>>> from bandsplits.flats import carries, flatness_of, flattest_half_band, is_half_band, on_power, roundness_of, silences, symmetry_of
>>> [flatness_of((0, (one, (-2, 1), one))), roundness_of(sums), flatness_of((0, ())), silences(gaps, 1), silences(gaps, 2), carries(sums, 1), carries(gaps, 1)]
[2, 1, 'all', True, False, True, False]
>>> [on_power(gaps, 1), on_power(sums, 2), on_power(gaps, 0), symmetry_of(sums), symmetry_of(gaps), symmetry_of((0, (one, two))), is_half_band(sums)]
[((1, 1),), ((1, 1), (-2, 1), (2, 1)), (), (1, 1), (-1, 1), None, True]
>>> [flattest_half_band(1), flattest_half_band(2)]
[(-1, ((1, 2), (1, 1), (1, 2))), (-3, ((-1, 16), (0, 1), (9, 16), (1, 1), (9, 16), (0, 1), (-1, 16)))]

Ladders, partners, whole ladders.

>>> from bandsplits.ladders import climbed, climbed_back, is_ladder, ladder_of, splitter_of, step_to, undoing_joiner
>>> from bandsplits.partners import flat_partner, is_partner, partner_bar, partner_by, partner_of, partner_parts
>>> from bandsplits.readings import do_tell, splitter_for, splitter_read, unlike_splitter
>>> from bandsplits.trees import fewest_numbers, fewest_tree, leaf_rows, tree_channels, tree_joined
>>> from bandsplits.wholes import is_rounded, join_whole, least_multiple, rounding_bounds, split_whole
>>> means = ((0, (half, half)), (0, (less, one)))
>>> ladder = ((("high", (0, (less,))), ("low", (0, (half,)))), ((one, 0), (one, 0)))
>>> ramp = (0, (one, two, (3, 1), (4, 1)))
>>> [is_ladder(ladder), splitter_of(ladder) == means, splitter_of(ladder_of(means)) == means, ladder_of((means[0], means[0])), climbed(ladder, ramp)]
[True, True, True, None, ((0, ((1, 2), (5, 2), (2, 1))), (0, ((-1, 1), (-1, 1), (4, 1))))]
>>> [climbed_back(ladder, climbed(ladder, ramp)) == ramp, undoing_joiner(ladder), step_to(means, (means[0], (0, (one, (3, 1))))), step_to(means, (means[1], means[0]))]
[True, ((-1, ((1, 1), (1, 1))), (-1, ((1, 2), (-1, 2)))), ('high', (0, ((4, 1),))), None]
>>> [split_whole(ladder, ramp), join_whole(ladder, split_whole(ladder, ramp)) == ramp, least_multiple(ladder), rounding_bounds(ladder), is_rounded(ladder, ramp), is_rounded(ladder, (0, (two,)))]
[((0, ((1, 1), (3, 1), (2, 1))), (0, ((-1, 1), (-1, 1), (4, 1)))), True, 2, ((1, 2), (0, 1)), True, False]
>>> [is_partner(means[0], means[1]), is_partner(means[0], partner_of(means[0])), partner_of((0, (one, (0, 1), one))), partner_bar((0, (one, (0, 1), one))), partner_bar(means[0])]
[True, True, None, (0, ((1, 1), (1, 1))), None]
>>> [partner_parts(means[0], means[1], (0, (one, (3, 1)))), partner_by(means[0], means[1], two, 1, (0, ())), flat_partner((0, (one, less)), 1), is_partner(means[0], flat_partner(means[0], 3))]
[((1, 1), 0, (0, ((4, 1),))), (2, ((-2, 1), (2, 1))), None, True]
>>> split(means, ramp)
((0, ((1, 2), (5, 2), (2, 1))), (0, ((-1, 1), (-1, 1), (4, 1))))

Readings, trees.

>>> [do_tell((0, (one,)), (1, (one,))), do_tell((0, (one,)), (2, ((5, 1),))), splitter_read((0, (one,)), ((0, (half,)), (0, (less,))), (1, (one,)), ((1, (half,)), (1, (one,)))) == means]
[True, False, True]
>>> [splitter_for((0, (two, (0, 1), two)), ((0, (one,)), (0, ()))), unlike_splitter(means, (0, (one,)), (1, (one,))), unlike_splitter(means, (0, (one,)), (2, (one,))) == means]
[None, None, False]
>>> leaf_rows(means, ((None, None), None))
(((0, ((1, 4), (1, 4), (1, 4), (1, 4))), 2), ((0, ((-1, 2), (-1, 2), (1, 2), (1, 2))), 2), ((0, ((-1, 1), (1, 1))), 1))
>>> [tree_channels(means, ((None, None), None), ramp), tree_joined(undoing_joiner(ladder), ((None, None), None), tree_channels(means, ((None, None), None), ramp)) == ramp]
[((0, ((1, 4), (9, 4))), (0, ((-1, 2), (1, 2))), (0, ((-1, 1), (-1, 1), (4, 1)))), True]
>>> [fewest_tree(means, (1, (one, one)), 2), fewest_numbers(means, (1, (one, one)), 2), fewest_tree(means, (0, (one, one)), 2)]
[(None, None), 1, None]

Masks.

>>> from bandsplits.masks import curve_at, curve_moment, halved, has_curve, has_right_angles, inner_products, staircase, steepness, transfer, transfer_rule
>>> box, hat, cleft = (0, (one, one)), (0, (half, one, half)), (0, (one, nil, nil, one))
>>> [halved(box, (0, (one, two))), staircase(hat, unit, 2), transfer(box, unit), transfer(box, (-1, ((-1, 1), two, (-1, 1))))]
[(0, ((1, 1), (1, 1), (2, 1), (2, 1))), (0, ((1, 4), (1, 2), (3, 4), (1, 1), (3, 4), (1, 2), (1, 4))), (0, ((1, 1),)), (-1, ((-1, 2), (1, 1), (-1, 2)))]
>>> [transfer_rule(box), transfer_rule(hat), transfer_rule(cleft), has_curve(box), has_curve(hat), has_curve(cleft), has_curve((0, (one, two)))]
[((-1, 2), (1, 1)), ((-1, 4), (1, 1)), ((-1, 2), (-1, 2), (1, 1)), True, True, False, False]
>>> [inner_products(box), inner_products(hat), has_right_angles(box), has_right_angles(hat), steepness(box), steepness(hat), steepness(cleft)]
[(0, ((1, 1),)), (-1, ((1, 6), (2, 3), (1, 6))), True, False, 0, 1, None]
>>> [curve_at(hat, 1, 0), curve_at(hat, 1, 1), curve_at(hat, 5, 0), [curve_moment(hat, order) for order in (0, 1, 2)]]
[(1, 1), (1, 2), (0, 1), [(1, 1), (1, 1), (7, 6)]]
>>> curve_at(box, 0, 0)
raises NotSteep()
>>> inner_products(cleft)
raises NoCurve()

Workshops, consoles, claims.

>>> from bandsplits.consoles import Console
>>> from bandsplits.workshops import Workshop
>>> from bandsplits.checker import accepts
>>> from bandsplits.certificates import certify_loss
>>> shop = Workshop()
>>> console = Console(shop)
>>> [console.say("put oak: 0: 1/1 1/1; 0: 1/1 -1/1"), console.say("splitter oak"), console.say("split oak: 0: 5/1 3/1 8/1"), console.say("word oak"), console.say("names")]
['done', '0: 1/1 1/1; 0: 1/1 -1/1', '0: 5/1 11/1; 0: 5/1 5/1', 'nothing', 'oak']
>>> shop.wish(("lossless", "oak"))
>>> console.say("put oak: 0: 1/1 1/1; nought")
raises Broken(index=0)
>>> [certify_loss(haar), accepts(("finite lost", (sums, sums)), (1, ((1, 1), (-1, 1)))), accepts(("finite lost", thin), (0, ())), accepts(("nothing lost", thin), haar)]
[(('nothing lost', ((0, ((1, 1), (1, 1))), (0, ((1, 1), (-1, 1))))), ((-1, ((1, 2), (1, 2))), (-1, ((-1, 2), (1, 2))))), True, False, False]
"""


def told(action):
    """Print an error that is raised as the document tells it."""
    try:
        action()
    except ValueError as error:
        print("raises {}({})".format(
            type(error).__name__, ", ".join(f"{name}={value!r}" for name, value in vars(error).items()),
        ))


class Examples(unittest.TestCase):
    def test_answers(self):
        text = re.sub(r">>> (.*)\n(?=raises )", r">>> told(lambda: \1)\n", EXAMPLES)
        examples = doctest.DocTestParser().get_doctest(text, {"told": told}, "examples", None, None)
        shown = []
        outcome = doctest.DocTestRunner(verbose=False).run(examples, out=shown.append)
        self.assertEqual((outcome.failed, "".join(shown)), (0, ""))
        self.assertEqual(outcome.attempted, EXAMPLES.count(">>> "))
        self.assertEqual(text.count("told(lambda"), EXAMPLES.count("\nraises "))


if __name__ == "__main__":
    unittest.main()
