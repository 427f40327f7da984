"""The circle: sizes of rows at the angles, and between which shares of energy a splitter stays."""

from math import isqrt

from bandsplits.cosines import circle_form, share_forms, size_form
from bandsplits.errors import InvalidFraction
from bandsplits.polynomials import value_at_ratio, weighed_sum
from bandsplits.ratios import is_below, is_fraction, need_ends, need_many, reduced
from bandsplits.rows import NOUGHT_ROW, need_row
from bandsplits.searches import least_near, low_place
from bandsplits.signs import cosine_of, has_zero, negative_cosine, place_of, roots_inside
from bandsplits.splitters import need_splitter, table_of
from bandsplits.tables import table_determinant

# How finely the angles are looked through before the exact tests begin.
FIRST_DEPTH = 6


def is_cosine(value):
    """Whether a value, whatever it is, is a fraction from -2 to 2."""
    return is_fraction(value) and not is_below(value, (-2, 1)) and not is_below((2, 1), value)


def need_cosine(cosine):
    """Raise InvalidFraction for what is no fraction from -2 to 2."""
    if not is_cosine(cosine):
        raise InvalidFraction(cosine)


def size_at(row, cosine):
    """The row's size at t = cosine."""
    need_row(row)
    need_cosine(cosine)
    numbers, bottom = size_form(row)
    for _ in numbers[1:]:
        bottom = bottom * cosine[1]
    return reduced(value_at_ratio(numbers, cosine[0], cosine[1]), bottom)


def touches_circle(row):
    """Whether the row is 0 somewhere on the circle; the nought row is."""
    need_row(row)
    return row == NOUGHT_ROW or zeros_of(row) > 0


def circle_zeros(row):
    """The number of the row's zeros on the circle, each place counted once; the text `all` for the nought row."""
    need_row(row)
    return "all" if row == NOUGHT_ROW else zeros_of(row)


def zeros_of(row):
    """As circle_zeros, for a row other than nought."""
    at_one, at_minus_one, numbers = circle_form(row)
    return 2 * roots_inside(numbers) + int(at_one) + int(at_minus_one)


def sizes_between(row, low, high):
    """Whether all sizes of the row on the circle are from low up to high."""
    need_row(row)
    need_ends(low, high)
    numbers, bottom = size_form(row)
    above_low = weighed_sum(low[1], numbers, -low[0] * bottom, [1])
    below_high = weighed_sum(-high[1], numbers, high[0] * bottom, [1])
    return negative_cosine(above_low) is None and negative_cosine(below_high) is None


def loses_bounded(splitter):
    """Whether the splitter loses a bounded endless row, of any numbers."""
    need_splitter(splitter)
    determinant = table_determinant(table_of(splitter))
    return determinant == NOUGHT_ROW or zeros_of(determinant) > 0


def shares_between(splitter, low, high):
    """Whether all shares of the splitter are from low up to high."""
    return breaking_cosine(splitter, low, high) is None


def breaking_cosine(splitter, low, high):
    """Any fraction from -2 to 2 at which one of the four numbers of the ends is below 0; None if there is none."""
    need_splitter(splitter)
    need_ends(low, high)
    forms = share_forms(table_of(splitter))
    found = cosine_below(forms, low)
    return cosine_above(forms, high) if found is None else found


def is_broken_at(splitter, low, high, cosine):
    """Whether one of the four numbers of the ends is below 0 at t = cosine."""
    forms = share_forms(table_of(splitter))
    four = (sum_above(forms, low), product_beyond(forms, low), sum_below(forms, high), product_beyond(forms, high))
    return any([value_at_ratio(numbers, cosine[0], cosine[1]) < 0 for numbers in four])


def cosine_below(forms, low):
    """Any fraction from -2 to 2 at which one of the two numbers of LOW, a pair of whole numbers, is below 0; None."""
    found = negative_cosine(sum_above(forms, low))
    return negative_cosine(product_beyond(forms, low)) if found is None else found


def cosine_above(forms, high):
    """As cosine_below, for HIGH."""
    found = negative_cosine(sum_below(forms, high))
    return negative_cosine(product_beyond(forms, high)) if found is None else found


def sum_above(forms, low):
    """The polynomial of TRACE - 2 LOW, times a number above 0."""
    return weighed_sum(low[1], forms[0], -2 * low[0] * forms[2], [1])


def sum_below(forms, high):
    """The polynomial of 2 HIGH - TRACE, times a number above 0."""
    return weighed_sum(-high[1], forms[0], 2 * high[0] * forms[2], [1])


def product_beyond(forms, end):
    """The polynomial of DD - END * TRACE + END * END, times a number above 0."""
    trace, square, bottom = forms
    top, below = end
    without_end = weighed_sum(below * below, square, -top * below, trace)
    return weighed_sum(1, without_end, top * top * bottom, [1])


def least_share(splitter, many):
    """The greatest whole number n such that n / many is not above the least share."""
    need_splitter(splitter)
    need_many(many)
    forms = share_forms(table_of(splitter))
    measure = lambda at, deep: share_floor(forms, -1, at, deep, many)
    place, depth = low_place(measure, FIRST_DEPTH), FIRST_DEPTH
    while True:
        # The share at some angle is not below the least one, so this number is too great, if anything.
        count = least_near(measure, place, depth)
        cosine = cosine_below(forms, (count, many))
        if cosine is None:
            return count
        place, depth = place_of(cosine)


def greatest_share(splitter, many):
    """The greatest whole number n such that n / many is not above the greatest share."""
    need_splitter(splitter)
    need_many(many)
    forms = share_forms(table_of(splitter))
    measure = lambda at, deep: -share_floor(forms, 1, at, deep, many)
    place, depth = low_place(measure, FIRST_DEPTH), FIRST_DEPTH
    while True:
        count = -least_near(measure, place, depth)
        end = (count + 1, many)
        cosine = cosine_above(forms, end)
        if cosine is None:
            # The greatest share is not above the end, but it may be the end.
            return count + int(has_zero(product_beyond(forms, end)))
        place, depth = place_of(cosine)


def share_floor(forms, sign, place, depth, many):
    """The lesser share at a place of the circle, for the sign -1, or the greater one, for 1, times many, rounded down.

    These are the eigenvalues of [14], the roots of x * x - TRACE * x + DD.
    """
    top, bottom = cosine_of(place, depth)
    trace, square, unit = forms
    longest = max(len(trace), len(square))
    sums = scaled_value(trace, longest, top, bottom)
    products = scaled_value(square, longest, top, bottom)
    for _ in range(longest - 1):
        unit = unit * bottom
    inside = many * many * (sums * sums - 4 * products * unit)
    root = isqrt(inside)
    if sign < 0 and root * root < inside:
        root += 1
    return (many * sums + sign * root) // (2 * unit)


def scaled_value(numbers, longest, top, bottom):
    """The polynomial's value at top / bottom, times the bottom to the power of longest - 1."""
    return value_at_ratio(numbers + [0] * (longest - len(numbers)), top, bottom)
