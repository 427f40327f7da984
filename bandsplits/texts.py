"""Texts of whole numbers, fractions and rows, there and back."""

from bandsplits.rows import NOUGHT_ROW, is_row

NOUGHT_TEXT = "nought"


def row_text(row):
    """The text of a row."""
    if row == NOUGHT_ROW:
        return NOUGHT_TEXT
    return f"{row[0]}: " + " ".join([f"{top}/{bottom}" for top, bottom in row[1]])


def rows_text(rows):
    """The text of several rows."""
    return "; ".join([row_text(row) for row in rows])


def whole_from(text):
    """The whole number that the text may stand for; None if it is of no such form."""
    digits = text.removeprefix("-")
    if not digits.isascii() or not digits.isdigit():
        return None
    return int(text)


def fraction_from(text):
    """The pair of whole numbers that the text may stand for; they are None where it is of no such form."""
    top, _, bottom = text.partition("/")
    return (whole_from(top), whole_from(bottom))


def row_from_text(text):
    """The row that has this text; None if none has it."""
    if text == NOUGHT_TEXT:
        return NOUGHT_ROW
    start, _, numbers = text.partition(":")
    found = (whole_from(start), tuple([fraction_from(number) for number in numbers.split(" ")[1:]]))
    # Each row has just one text, so that what else is wrong shows here.
    return found if is_row(found) and row_text(found) == text else None


def rows_from_text(text, many):
    """The tuple of so many rows that have this text; None if none have it."""
    rows = tuple([row_from_text(part) for part in text.split("; ")])
    return None if None in rows or len(rows) != many else rows
