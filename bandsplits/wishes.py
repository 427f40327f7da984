"""Names of splitters, and wishes: what is to hold of the splitter under a name."""

from bandsplits.circle import shares_between
from bandsplits.flats import is_flat
from bandsplits.losses import loss_word
from bandsplits.ratios import is_range, is_whole
from bandsplits.turns import is_keeper

LONGEST_NAME = 12


def is_name(value):
    """Whether a value, whatever it is, can be a name."""
    if not isinstance(value, str) or not 1 <= len(value) <= LONGEST_NAME:
        return False
    return all(["a" <= letter <= "z" for letter in value])


def is_nothing(told):
    """Whether nothing is told behind the name."""
    return len(told) == 0


def is_pair_of_ends(told):
    """Whether a low and a high end are told behind the name."""
    return len(told) == 2 and is_range(told[0], told[1])


def is_flatness(told):
    """Whether a number that a wish of flatness can have is told behind the name."""
    return len(told) == 1 and is_whole(told[0]) and 1 <= told[0] <= 8


def is_lossless(splitter, told):
    """Whether the splitter loses nothing."""
    return loss_word(splitter) == "nothing"


def keeps_energy(splitter, told):
    """Whether the splitter is a keeper."""
    return is_keeper(splitter)


def stays_between(splitter, told):
    """Whether all shares of the splitter are between the told ends."""
    return shares_between(splitter, told[0], told[1])


def has_flat_high_row(splitter, told):
    """Whether the splitter's high row is as flat as told."""
    return is_flat(splitter[1], told[0])


# What may be told behind the name, and when it holds.
FORMS = {"lossless": is_nothing, "keeper": is_nothing, "between": is_pair_of_ends, "flat": is_flatness}
MEANINGS = {"lossless": is_lossless, "keeper": keeps_energy, "between": stays_between, "flat": has_flat_high_row}


def is_wish(value):
    """Whether a value, whatever it is, is a wish."""
    if not isinstance(value, tuple) or len(value) < 2 or not isinstance(value[0], str) or value[0] not in FORMS:
        return False
    is_right = FORMS[value[0]]
    return is_name(value[1]) and is_right(value[2:])


def is_fulfilled(wish, splitter):
    """Whether a wish holds if this splitter stands under its name."""
    is_so = MEANINGS[wish[0]]
    return is_so(splitter, wish[2:])
