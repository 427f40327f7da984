"""Consoles: workshops that are talked to in lines of text."""

from bandsplits.errors import InvalidPhrase, NotAWorkshop
from bandsplits.losses import loss_word
from bandsplits.splitters import split
from bandsplits.texts import rows_from_text, rows_text
from bandsplits.wishes import is_name
from bandsplits.workshops import Workshop

DONE = "done"
# How many rows are told behind the name.
ROWS_TOLD = {"put": 2, "drop": 0, "splitter": 0, "split": 1, "word": 0}


def phrase_of(line):
    """The triple of a line's first word, its name and the tuple of its rows; None for a line of no such form."""
    if not isinstance(line, str):
        return None
    if line == "names" or line == "undo":
        return (line, None, ())
    word, _, rest = line.partition(" ")
    if word not in ROWS_TOLD:
        return None
    if ROWS_TOLD[word] == 0:
        return (word, rest, ()) if is_name(rest) else None
    name, _, text = rest.partition(": ")
    rows = rows_from_text(text, ROWS_TOLD[word])
    return (word, name, rows) if is_name(name) and rows is not None else None


class Console:
    """What answers to lines of text about a workshop."""

    def __init__(self, shop):
        if not isinstance(shop, Workshop):
            raise NotAWorkshop(shop)
        self.shop = shop

    def say(self, line):
        """The answer to a line."""
        phrase = phrase_of(line)
        if phrase is None:
            raise InvalidPhrase(line)
        word, name, rows = phrase
        if word == "names":
            return " ".join(self.shop.names) or "none"
        if word == "splitter":
            return rows_text(self.shop.named(name))
        if word == "split":
            return rows_text(split(self.shop.named(name), rows[0]))
        if word == "word":
            return loss_word(self.shop.named(name))
        self.change(word, name, rows)
        return DONE

    def change(self, word, name, rows):
        """Change the workshop as a line tells it."""
        if word == "put":
            self.shop.put(name, rows)
        elif word == "drop":
            self.shop.drop(name)
        else:
            self.shop.undo()
