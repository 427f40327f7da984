"""Claims for the checker, as far as their form goes."""

from bandsplits.masks import is_mask
from bandsplits.ratios import is_range, is_whole
from bandsplits.rows import is_row
from bandsplits.splitters import is_pair_of_rows
from bandsplits.wholes import is_whole_ladder


def is_of_splitter(told):
    """Whether a splitter alone is told."""
    return len(told) == 1 and is_pair_of_rows(told[0])


def is_of_ends(told):
    """Whether a splitter and two ends are told."""
    return len(told) == 3 and is_pair_of_rows(told[0]) and is_range(told[1], told[2])


def is_of_row(told):
    """Whether a row alone is told."""
    return len(told) == 1 and is_row(told[0])


def is_of_flatness(told):
    """Whether a row and a number from 0 to 8 are told."""
    return len(told) == 2 and is_row(told[0]) and is_whole(told[1]) and 0 <= told[1] <= 8


def is_of_mask(told):
    """Whether a mask alone is told."""
    return len(told) == 1 and is_mask(told[0])


def is_of_rows(told):
    """Whether two rows are told."""
    return is_pair_of_rows(told)


def is_of_rounding(told):
    """Whether a whole ladder and a number above 0 are told."""
    return len(told) == 2 and is_whole_ladder(told[0]) and is_whole(told[1]) and told[1] > 0


# What is told behind the text of each claim.
FORMS = {
    "nothing lost": is_of_splitter,
    "endless lost": is_of_splitter,
    "finite lost": is_of_splitter,
    "between": is_of_ends,
    "not between": is_of_ends,
    "keeper": is_of_splitter,
    "no keeper": is_of_splitter,
    "partner": is_of_row,
    "no partner": is_of_row,
    "flat": is_of_flatness,
    "not flat": is_of_flatness,
    "curve": is_of_mask,
    "no curve": is_of_mask,
    "telling": is_of_rows,
    "not telling": is_of_rows,
    "never rounded": is_of_rounding,
    "rounded": is_of_rounding,
}


def is_claim(value):
    """Whether a value, whatever it is, is a claim for the checker."""
    if not isinstance(value, tuple) or len(value) == 0 or not isinstance(value[0], str) or value[0] not in FORMS:
        return False
    is_right = FORMS[value[0]]
    return is_right(value[1:])
