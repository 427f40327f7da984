"""Claims that are so, each with a paper that the checker accepts."""

from bandsplits.circle import breaking_cosine
from bandsplits.flats import is_flat
from bandsplits.losses import joiner_of, loss_word, lost_endless, lost_row
from bandsplits.masks import has_curve
from bandsplits.partners import partner_bar, partner_of
from bandsplits.ratios import ONE, ZERO, need_many, need_whole_between
from bandsplits.readings import NOUGHT_PAIR, unlike_splitter
from bandsplits.rows import UNIT_ROW, need_row, row_sum
from bandsplits.splitters import share_of, table_of
from bandsplits.tables import table_product, turned_table
from bandsplits.turns import turns_of
from bandsplits.wholes import is_rounded, least_multiple, need_whole_ladder


def certify_loss(splitter):
    """The claim of the splitter's loss word, and its paper."""
    word = loss_word(splitter)
    if word == "nothing":
        return (("nothing lost", splitter), joiner_of(splitter))
    if word == "finite":
        return (("finite lost", splitter), lost_row(splitter))
    return (("endless lost", splitter), lost_endless(splitter))


def certify_between(splitter, low, high):
    """The claim whether all shares are from low up to high, and its paper."""
    found = breaking_cosine(splitter, low, high)
    if found is None:
        return (("between", splitter, low, high), ())
    return (("not between", splitter, low, high), found)


def certify_keeper(splitter):
    """The claim whether the splitter is a keeper, and its paper."""
    found = turns_of(splitter)
    if found is None:
        return (("no keeper", splitter), unlike_shares(splitter))
    return (("keeper", splitter), found)


def unlike_shares(splitter):
    """A pair of rows with unlike shares, or shares that are both 0, by a splitter that is no keeper."""
    odd_unit = (1, (ONE,))
    if share_of(splitter, UNIT_ROW) != share_of(splitter, odd_unit):
        return (UNIT_ROW, odd_unit)
    leaning = leaning_places(splitter)
    if not leaning:
        # All shares are the same, but of no keeper: they are 0.
        return (UNIT_ROW, UNIT_ROW)
    first, second = leaning[0]
    return (UNIT_ROW, row_sum((first, (ONE,)), (second, (ONE,))))


def leaning_places(splitter):
    """Pairs of unlike places, if there are some, such that the channels of single rows there have no right angle.

    The energy of the channels of both together is then not the sum of both energies.
    """
    table = table_of(splitter)
    (left, across), (_, right) = table_product(turned_table(table), table)
    at_even = [(0, 2 * apart) for apart in filled_places(left) if apart != 0]
    at_odd = [(1, 2 * apart + 1) for apart in filled_places(right) if apart != 0]
    return at_even + at_odd + [(0, 1 - 2 * apart) for apart in filled_places(across)]


def filled_places(row):
    """The places at which the row has numbers other than 0."""
    return [place for place, number in enumerate(row[1], start=row[0]) if number != ZERO]


def certify_partner(row):
    """The claim whether the row has a partner, and its paper."""
    found = partner_of(row)
    if found is None:
        return (("no partner", row), partner_bar(row))
    return (("partner", row), found)


def certify_flat(row, order):
    """The claim whether (1 - z) ** order divides the row, and its paper."""
    need_row(row)
    need_whole_between(order, 0, 8)
    return (("flat" if is_flat(row, order) else "not flat", row, order), ())


def certify_curve(mask):
    """The claim whether the mask has a curve, and its paper."""
    return (("curve" if has_curve(mask) else "no curve", mask), ())


def certify_telling(row, other):
    """The claim whether both rows tell splitters, and its paper."""
    found = unlike_splitter(NOUGHT_PAIR, row, other)
    if found is None:
        return (("telling", row, other), ())
    return (("not telling", row, other), (NOUGHT_PAIR, found))


def certify_rounding(ladder, many):
    """The claim whether no step rounds anything for rows of multiples of the number, and its paper."""
    need_whole_ladder(ladder)
    need_many(many)
    if many % least_multiple(ladder) == 0:
        return (("never rounded", ladder, many), ())
    # One column of some table on the way is not whole when multiplied: even places lead to the first, odd to the other.
    even_row = (0, ((many, 1),))
    paper = even_row if is_rounded(ladder, even_row) else (1, ((many, 1),))
    return (("rounded", ladder, many), paper)
