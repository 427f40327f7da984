"""The checker of claims: what it accepts is so, whoever wrote the paper."""

from bandsplits.circle import is_broken_at, is_cosine, shares_between
from bandsplits.claims import is_claim
from bandsplits.flats import is_flat
from bandsplits.losses import is_endless, is_lost_endless
from bandsplits.masks import has_curve
from bandsplits.partners import is_partner, is_single
from bandsplits.ratios import ZERO
from bandsplits.readings import do_tell
from bandsplits.rows import NOUGHT_ROW, every_second, is_row, row_quotient
from bandsplits.splitters import channels_by, delay_of, is_pair_of_rows, is_table, share_of
from bandsplits.turns import is_turns, splitter_by_turns
from bandsplits.wholes import has_whole_numbers, is_rounded, least_multiple


def is_empty(paper):
    """Whether the paper is the empty tuple."""
    return isinstance(paper, tuple) and len(paper) == 0


def shows_nothing_lost(told, paper):
    """Whether the paper is the joiner that gives all rows back, late by 0."""
    return is_pair_of_rows(paper) and delay_of(told[0], paper) == 0


def shows_endless_lost(told, paper):
    """Whether the paper is an endless row that is lost."""
    return is_endless(paper) and is_lost_endless(told[0], paper)


def shows_finite_lost(told, paper):
    """Whether the paper is a row that is lost."""
    return is_row(paper) and paper != NOUGHT_ROW and channels_by(told[0], paper) == (NOUGHT_ROW, NOUGHT_ROW)


def shows_between(told, paper):
    """Whether all shares are between both ends."""
    return is_empty(paper) and shares_between(told[0], told[1], told[2])


def shows_not_between(told, paper):
    """Whether the paper is a place where some share is seen not to be between both ends."""
    return is_cosine(paper) and is_broken_at(told[0], told[1], told[2], paper)


def shows_keeper(told, paper):
    """Whether the paper tells the splitter's turns."""
    return is_turns(paper) and splitter_by_turns(paper) == told[0]


def shows_no_keeper(told, paper):
    """Whether the paper is a pair of rows with shares that no keeper has."""
    if not is_pair_of_rows(paper) or NOUGHT_ROW in paper:
        return False
    first, second = share_of(told[0], paper[0]), share_of(told[0], paper[1])
    return first != second or first == ZERO


def shows_partner(told, paper):
    """Whether the paper is a partner."""
    return is_row(paper) and is_partner(told[0], paper)


def shows_no_partner(told, paper):
    """Whether the paper is a row, not a single one, that divides both parts of the row."""
    if not is_row(paper) or is_single(paper):
        return False
    return divides(paper, every_second(told[0], 0)) and divides(paper, every_second(told[0], 1))


def divides(row, other):
    """Whether the other row is a product of the row and some row."""
    return other == NOUGHT_ROW or row_quotient(other, row) is not None


def shows_flat(told, paper):
    """Whether the row is as flat as told."""
    return is_empty(paper) and is_flat(told[0], told[1])


def shows_not_flat(told, paper):
    """Whether the row is less flat than told."""
    return is_empty(paper) and not is_flat(told[0], told[1])


def shows_curve(told, paper):
    """Whether the mask has a curve."""
    return is_empty(paper) and has_curve(told[0])


def shows_no_curve(told, paper):
    """Whether the mask has no curve."""
    return is_empty(paper) and not has_curve(told[0])


def shows_telling(told, paper):
    """Whether both rows tell splitters."""
    return is_empty(paper) and do_tell(told[0], told[1])


def shows_not_telling(told, paper):
    """Whether the paper is a pair of unlike splitters with the same channels for both rows."""
    if not is_table(paper) or paper[0] == paper[1]:
        return False
    return all([channels_by(paper[0], row) == channels_by(paper[1], row) for row in told])


def shows_never_rounded(told, paper):
    """Whether no step rounds anything for rows of multiples of the number."""
    return is_empty(paper) and told[1] % least_multiple(told[0]) == 0


def shows_rounded(told, paper):
    """Whether the paper is a row of multiples of the number for which a step rounds something."""
    if not is_row(paper) or not has_whole_numbers(paper):
        return False
    return all([top % told[1] == 0 for top, _ in paper[1]]) and is_rounded(told[0], paper)


# What a paper is looked at for, by the text of its claim.
CHECKS = {
    "nothing lost": shows_nothing_lost,
    "endless lost": shows_endless_lost,
    "finite lost": shows_finite_lost,
    "between": shows_between,
    "not between": shows_not_between,
    "keeper": shows_keeper,
    "no keeper": shows_no_keeper,
    "partner": shows_partner,
    "no partner": shows_no_partner,
    "flat": shows_flat,
    "not flat": shows_not_flat,
    "curve": shows_curve,
    "no curve": shows_no_curve,
    "telling": shows_telling,
    "not telling": shows_not_telling,
    "never rounded": shows_never_rounded,
    "rounded": shows_rounded,
}


def accepts(claim, paper):
    """Whether the first value is a claim and the second one is a paper for it; False for whatever else they are."""
    if not is_claim(claim):
        return False
    is_shown = CHECKS[claim[0]]
    return is_shown(claim[1:], paper)
