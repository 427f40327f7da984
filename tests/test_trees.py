"""Points 33 and 34: trees of splitters, their leaves, there and back, and the fewest numbers."""

import unittest
from fractions import Fraction

from bandsplits.losses import joiner_of, loss_word
from bandsplits.splitters import delay_of, split
from bandsplits.trees import fewest_numbers, fewest_tree, is_tree, leaf_rows, tree_channels, tree_joined
from samples import (
    HAAR_PAIR, HUGE, NIL, NOUGHT, ONE, SUMS_ROW, UNIT, Maker, all_trees, leaning_tree, numbers_of, product,
    row_of_numbers, row_with, shifted, splitter_from, spread, steps_table, tree_of_depth,
)

MEANS = ((0, ((1, 2), (1, 2))), (0, ((-1, 1), ONE)))


def ways_of(tree):
    """The way to each leaf, in order: 0 for low, 1 for high."""
    if tree is None:
        return [()]
    return [(turn,) + way for turn in (0, 1) for way in ways_of(tree[turn])]


def spread_by(row, times):
    for _ in range(times):
        row = spread(row)
    return row


def leaf_row(splitter, way):
    """h_i(z) * h_j(zz) * h_l(z ** 4) .., i, j, l being the way."""
    out = UNIT
    for level, turn in enumerate(way):
        out = product(out, spread_by(splitter[turn], level))
    return out


def thinned(row, step):
    """The row with the numbers at each multiple of the step."""
    return row_with({place // step: number for place, number in numbers_of(row).items() if place % step == 0})


def lossless(maker):
    """A splitter that loses nothing."""
    steps = [(maker.random.choice(("low", "high")), maker.row(most=2, reach=2)) for _ in range(3)]
    return splitter_from(steps_table(steps))


def count_of(channels):
    return sum(len(numbers_of(one)) for one in channels)


class Trees(unittest.TestCase):
    def test_right_ones(self):
        for tree in all_trees(3) + [tree_of_depth(4), leaning_tree(4), leaning_tree(4, 1)]:
            self.assertIs(is_tree(tree), True)
            self.assertIs(is_tree(value=tree), True)

    def test_leaf_rows_as_told(self):
        maker = Maker(311)
        for tree in all_trees(3) + [tree_of_depth(4), leaning_tree(4), leaning_tree(4, 1)]:
            splitter = maker.pair(most=3, reach=3)
            with self.subTest(tree=tree, splitter=splitter):
                told = tuple((leaf_row(splitter, way), len(way)) for way in ways_of(tree))
                self.assertEqual(leaf_rows(splitter, tree), told)
                self.assertEqual(leaf_rows(tree=tree, splitter=splitter), told)

    def test_a_leaf_alone(self):
        self.assertEqual(leaf_rows(MEANS, None), ((UNIT, 0),))
        self.assertEqual(leaf_rows((NOUGHT, NOUGHT), None), ((UNIT, 0),))
        self.assertEqual(tree_channels(MEANS, None, SUMS_ROW), (SUMS_ROW,))
        self.assertEqual(tree_joined((NOUGHT, NOUGHT), None, (SUMS_ROW,)), SUMS_ROW)

    def test_channels_by_leaf_rows(self):
        maker = Maker(312)
        for tree in all_trees(3) + [tree_of_depth(4), leaning_tree(4), leaning_tree(4, 1)]:
            splitter, row = maker.pair(most=3, reach=3), maker.row(most=9)
            with self.subTest(tree=tree, splitter=splitter, row=row):
                told = tuple(
                    thinned(product(leaf_row(splitter, way), row), 2 ** len(way)) for way in ways_of(tree)
                )
                self.assertEqual(tree_channels(splitter, tree, row), told)
                self.assertEqual(tree_channels(row=row, tree=tree, splitter=splitter), told)

    def test_one_pair_splits(self):
        maker = Maker(313)
        for _ in range(20):
            splitter, row = maker.pair(), maker.row()
            self.assertEqual(tree_channels(splitter, (None, None), row), split(splitter, row))


class ThereAndBack(unittest.TestCase):
    def test_what_is_split_is_joined(self):
        maker = Maker(314)
        for tree in all_trees(3) + [tree_of_depth(4), leaning_tree(4), leaning_tree(4, 1)]:
            splitter, row = lossless(maker), maker.row(most=9)
            with self.subTest(tree=tree, splitter=splitter, row=row):
                self.assertEqual(loss_word(splitter), "nothing")
                joiner, channels = joiner_of(splitter), tree_channels(splitter, tree, row)
                self.assertEqual(tree_joined(joiner, tree, channels), row)
                self.assertEqual(tree_joined(channels=channels, joiner=joiner, tree=tree), row)

    def test_any_joiner(self):
        # One that is no joiner for the splitter still makes a row, by spreading and adding.
        maker = Maker(315)
        for tree in all_trees(2):
            joiner = maker.pair(most=3)
            channels = tuple(maker.row(most=3) for _ in ways_of(tree))
            told = {}
            for way, one in zip(ways_of(tree), channels):
                made = one
                for turn in reversed(way):
                    made = product(joiner[turn], spread(made))
                for place, number in numbers_of(made).items():
                    told[place] = told.get(place, 0) + number
            with self.subTest(tree=tree, joiner=joiner, channels=channels):
                self.assertEqual(tree_joined(joiner, tree, channels), row_with(told))

    def test_a_joiner_that_gives_back_late_is_not_enough(self):
        joiner = tuple(shifted(row, 1) for row in joiner_of(MEANS))
        self.assertEqual(delay_of(MEANS, joiner), 1)
        channels = tree_channels(MEANS, ((None, None), None), SUMS_ROW)
        self.assertNotEqual(tree_joined(joiner, ((None, None), None), channels), shifted(SUMS_ROW, 1))

    def test_a_tree_other_than_a_leaf_loses_what_the_splitter_loses(self):
        lost = (0, (ONE, (-1, 1)))
        for tree in all_trees(2)[1:]:
            self.assertEqual(set(tree_channels((SUMS_ROW, SUMS_ROW), tree, shifted(lost, 1))), {NOUGHT})


class Fewest(unittest.TestCase):
    def test_of_all_trees(self):
        maker = Maker(316)
        seen = set()
        trees = {deep: all_trees(deep) for deep in range(4)}
        for number in range(60):
            splitter = maker.random.choice((MEANS, HAAR_PAIR, lossless(maker), maker.pair(most=2), (NOUGHT, UNIT)))
            row = maker.row(most=9)
            if number % 3 == 0:
                # Rows that some tree makes few numbers of.
                splitter, row = MEANS, row_of_numbers(1, *[1, 1, 2, 2, 1, 1, 2, 2, 3][:maker.random.randint(1, 9)])
            for deep in range(4 if number < 12 else 3):
                best = min((count_of(tree_channels(splitter, tree, row)), len(ways_of(tree))) for tree in trees[deep])
                only = [
                    tree for tree in trees[deep]
                    if (count_of(tree_channels(splitter, tree, row)), len(ways_of(tree))) == best
                ]
                with self.subTest(splitter=splitter, row=row, deep=deep):
                    self.assertEqual([fewest_tree(splitter, row, deep)], only)
                    self.assertEqual(fewest_numbers(splitter, row, deep), best[0])
                    self.assertEqual(fewest_tree(many=deep, row=row, splitter=splitter), only[0])
                    self.assertEqual(fewest_numbers(many=deep, row=row, splitter=splitter), best[0])
                seen.add(only[0])
        self.assertGreater(len(seen), 4)

    def test_where_there_are_as_many_it_does_not_split(self):
        # A row with one number at an even place has one number in each channel; split later none is saved.
        self.assertIsNone(fewest_tree((UNIT, (1, (ONE,))), (0, (ONE, ONE)), 4))
        self.assertEqual(fewest_numbers((UNIT, (1, (ONE,))), (0, (ONE, ONE)), 4), 2)
        self.assertIsNone(fewest_tree((UNIT, NOUGHT), UNIT, 4))

    def test_the_nought_row_and_what_is_lost(self):
        self.assertEqual((fewest_tree(MEANS, NOUGHT, 4), fewest_numbers(MEANS, NOUGHT, 4)), (None, 0))
        self.assertEqual((fewest_tree((NOUGHT, NOUGHT), UNIT, 0), fewest_numbers((NOUGHT, NOUGHT), UNIT, 0)), (None, 1))
        self.assertEqual(fewest_tree((NOUGHT, NOUGHT), UNIT, 4), (None, None))
        self.assertEqual(fewest_numbers((NOUGHT, NOUGHT), UNIT, 4), 0)

    def test_noughts_between_are_no_numbers(self):
        row = (1, (ONE, NIL, NIL, NIL, ONE))
        self.assertEqual(fewest_numbers(MEANS, row, 0), 2)

    def test_four_deep(self):
        ones = row_of_numbers(-15, *[1] * 16)
        found = fewest_tree(MEANS, ones, 4)
        self.assertEqual(fewest_numbers(MEANS, ones, 4), 1)
        self.assertEqual(found, leaning_tree(4))
        self.assertEqual(fewest_tree(MEANS, ones, 3), leaning_tree(3))
        self.assertEqual([fewest_numbers(MEANS, ones, deep) for deep in range(5)], [16, 8, 4, 2, 1])

    def test_numbers_saved_only_further_down(self):
        # The first split makes as many numbers, but the second one saves some.
        row = row_of_numbers(0, 2, 0, 2)
        best = min(count_of(tree_channels(MEANS, tree, row)) for tree in all_trees(2))
        self.assertEqual(fewest_numbers(MEANS, row, 2), best)

    def test_long_rows_and_huge_numbers(self):
        maker = Maker(317)
        splitter = (row_of_numbers(-1000, *range(1, 25)), (900, ((1, HUGE), (HUGE, 3))))
        row = row_of_numbers(1000, *[Fraction(maker.random.randint(-9, 9), 7) for _ in range(23)], 1)
        for tree in ((None, None), leaning_tree(4), tree_of_depth(4)):
            channels = tree_channels(splitter, tree, row)
            ways = ways_of(tree)
            for at in (0, len(ways) - 1):
                self.assertEqual(channels[at], thinned(product(leaf_row(splitter, ways[at]), row), 2 ** len(ways[at])))
        self.assertEqual(fewest_tree(splitter, row, 4), None)


if __name__ == "__main__":
    unittest.main()
