"""Trees of splitters: channels are split again, and joined back from the leaves on."""

from bandsplits.errors import InvalidChannels, InvalidTree
from bandsplits.ratios import need_whole_between
from bandsplits.rows import UNIT_ROW, is_row, need_row, spread_product
from bandsplits.splitters import channels_by, is_pair, need_joiner, need_splitter, row_by

DEEPEST = 4


def is_tree(value):
    """Whether a value, whatever it is, is a tree."""
    return is_tree_within(value, DEEPEST)


def is_tree_within(value, deepest):
    """Whether a value, whatever it is, is a tree not deeper than told."""
    if value is None:
        return True
    if deepest == 0 or not is_pair(value):
        return False
    return is_tree_within(value[0], deepest - 1) and is_tree_within(value[1], deepest - 1)


def need_tree(tree):
    """Raise InvalidTree for what is no tree."""
    if not is_tree(tree):
        raise InvalidTree(tree)


def leaf_rows(splitter, tree):
    """The tuple of the pairs of a leaf row and its level, in the order of the leaves."""
    need_splitter(splitter)
    need_tree(tree)
    return tuple(leaves_under(splitter, tree))


def leaves_under(splitter, tree):
    """As leaf_rows, as a list, without looking whether the arguments are right."""
    if tree is None:
        return [(UNIT_ROW, 0)]
    out = []
    for filter_row, branch in zip(splitter, tree):
        for row, level in leaves_under(splitter, branch):
            out.append((spread_product(filter_row, row), level + 1))
    return out


def leaf_count(tree):
    """How many leaves the tree has."""
    if tree is None:
        return 1
    return leaf_count(tree[0]) + leaf_count(tree[1])


def tree_channels(splitter, tree, row):
    """The tuple of the channels of the tree's leaves."""
    need_splitter(splitter)
    need_tree(tree)
    need_row(row)
    return tuple(channels_under(splitter, tree, row))


def channels_under(splitter, tree, row):
    """As tree_channels, as a list, without looking whether the arguments are right."""
    if tree is None:
        return [row]
    low, high = channels_by(splitter, row)
    return channels_under(splitter, tree[0], low) + channels_under(splitter, tree[1], high)


def tree_joined(joiner, tree, channels):
    """The row that the joiner makes of the channels of the tree's leaves."""
    need_joiner(joiner)
    need_tree(tree)
    need_leaf_channels(tree, channels)
    return joined_under(joiner, tree, channels)


def need_leaf_channels(tree, channels):
    """Raise InvalidChannels for what are not as many rows as the tree has leaves."""
    if not isinstance(channels, tuple) or len(channels) != leaf_count(tree):
        raise InvalidChannels(None)
    for index, channel in enumerate(channels):
        if not is_row(channel):
            raise InvalidChannels(index)


def joined_under(joiner, tree, channels):
    """As tree_joined, without looking whether the arguments are right."""
    if tree is None:
        return channels[0]
    many = leaf_count(tree[0])
    low = joined_under(joiner, tree[0], channels[:many])
    high = joined_under(joiner, tree[1], channels[many:])
    return row_by(joiner, (low, high))


def fewest_tree(splitter, row, many):
    """The tree, not deeper than told, whose channels have the fewest numbers other than 0, with the fewest leaves."""
    return fewest_by(splitter, row, many)[0]


def fewest_numbers(splitter, row, many):
    """How many numbers other than 0 the channels of the fewest tree have."""
    return fewest_by(splitter, row, many)[1]


def fewest_by(splitter, row, many):
    """The pair of the fewest tree and how many numbers other than 0 its channels have."""
    need_splitter(splitter)
    need_row(row)
    need_whole_between(many, 0, DEEPEST)
    return fewest_under(splitter, row, many)


def fewest_under(splitter, row, deepest):
    """As fewest_by, without looking whether the arguments are right."""
    count = len([number for number in row[1] if number[0] != 0])
    if deepest == 0 or count == 0:
        return (None, count)
    low, high = channels_by(splitter, row)
    low_tree, low_count = fewest_under(splitter, low, deepest - 1)
    high_tree, high_count = fewest_under(splitter, high, deepest - 1)
    # A split that saves nothing has a leaf more.
    if low_count + high_count >= count:
        return (None, count)
    return ((low_tree, high_tree), low_count + high_count)
