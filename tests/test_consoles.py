"""Point 38: the lines of a console and its texts."""

import unittest
from fractions import Fraction

from bandsplits.consoles import Console
from bandsplits.errors import (
    Broken, InUse, InvalidPhrase, NotAWorkshop, NothingToUndo, UnknownName,
)
from bandsplits.losses import loss_word
from bandsplits.splitters import split
from bandsplits.workshops import Workshop
from samples import (
    HAAR_PAIR, HUGE, NIL, NOUGHT, ONE, STRANGE, SUMS_ROW, UNIT, Maker, numbers_of, raised, row_of_numbers,
)

THIN = ((0, (ONE, NIL, ONE)), (1, (ONE,)))
HAAR_TEXT = "0: 1/1 1/1; 0: 1/1 -1/1"

RIGHT_ROWS = {
    "nought": NOUGHT, "0: 1/1": UNIT, "-1: -1/2": (-1, ((-1, 2),)), "12: 1/1 0/1 -7/3": (12, (ONE, NIL, (-7, 3))),
    "1000: 1/1 0/1 0/1 1/1": (1000, (ONE, NIL, NIL, ONE)), f"{HUGE}: 1/{HUGE}": (HUGE, ((1, HUGE),)),
    f"-{HUGE}: -{HUGE}/7": (-HUGE, ((-HUGE, 7),)),
}

# Nearly the text of a row.
WRONG_ROW_TEXTS = [
    "", " ", "0", "0:", "0: ", ":", ": 1/1", "nought ", " nought", "Nought", "none", "0: nought", "nought: 1/1", "0 1/1",
    "0:1/1", "0:  1/1", "0: 1/1 ", " 0: 1/1", "0 : 1/1", "0: 1/1  1/1", "0: 1", "0: 1/", "0: /1", "0: /", "0: 1/1/1",
    "0: 1 /1", "0: 1/ 1", "0: 1/0", "0: 1/-1", "0: -1/-1", "0: 2/2", "0: 2/4", "0: 0/2", "0: 0/1", "0: 0/1 1/1",
    "0: 1/1 0/1", "0: 1/1 0/2 1/1", "0: 1/1 -0/1 1/1", "0: +1/1", "+0: 1/1", "-0: 1/1", "00: 1/1", "01: 1/1",
    "0: 01/1", "0: 1/01", "0: 1/1,1/1", "0: 1/1\t1/1", "0:\t1/1", "0: 1/1\n", "0: 1.0/1", "0.0: 1/1", "0: 1e1/1",
    "0: 0x1/1", "0: 1_0/1", "1_0: 1/1", "0: one/1", "a: 1/1", "0: 1/1 a", "--1: 1/1", "0: --1/1", "- 1: 1/1",
    "0: - 1/1", "0: 1:1", "0; 1/1", "0: (1, 1)", "(0, ((1, 1),))", "0: 1/1;", "; 0: 1/1", "0: \u0661/1", "0: \u00b2/1",
    "0: 1/1; 0: 1/1; 0: 1/1", "-: 1/1", "0: -/1", "0: 1/-", "None: 1/1", "0: None/1", "True: 1/1", "0: 1\\1",
]

WRONG_LINES = [wrong for wrong in STRANGE] + [
    "put", "put ", "put oak", "put oak:", "put oak: ", "put : " + HAAR_TEXT, "put oak " + HAAR_TEXT, "put  oak: " + HAAR_TEXT,
    "put oak : " + HAAR_TEXT, "put oak:" + HAAR_TEXT, "put oak:  " + HAAR_TEXT, "Put oak: " + HAAR_TEXT,
    " put oak: " + HAAR_TEXT, "put oak: " + HAAR_TEXT + " ", "put oak: " + HAAR_TEXT + "\n", "put Oak: " + HAAR_TEXT,
    "put oak1: " + HAAR_TEXT, "put abcdefghijklm: " + HAAR_TEXT, "put oak tree: " + HAAR_TEXT, "put oak: nought",
    "put oak: nought; nought; nought", "put oak: nought;nought", "put oak: nought ; nought", "put oak: nought;  nought",
    "put oak: nought, nought", "put oak: " + HAAR_TEXT.replace("; ", ";"), "puts oak: " + HAAR_TEXT, "oak: " + HAAR_TEXT,
    "drop", "drop ", "drop  oak", "drop oak ", "drop oak:", "drop oak: " + HAAR_TEXT, "drop Oak", "drop oak ash",
    "drop abcdefghijklm", "drop 1", "Drop oak", "undo ", " undo", "undo oak", "Undo", "undo\n", "undoundo", "names ",
    "names oak", " names", "Names", "names\n", "name", "splitter", "splitter ", "splitter oak ", "splitter  oak",
    "splitter oak: nought", "splitter OAK", "splitter oak, ash", "splitters", "split", "split oak", "split oak ",
    "split oak:", "split oak: ", "split oak nought", "split oak: nought; nought", "split oak: " + HAAR_TEXT,
    "split : nought", "split  oak: nought", "split oak : nought", "split oak:nought", "split oak:  nought", "word",
    "word ", "word oak ", "word  oak", "word oak: nought", "word Oak", "words oak", "", " ", "oak", "done", "none",
    "lossless oak", "wish lossless oak", "lift 0", "put\toak: " + HAAR_TEXT, "drop\toak", "drop\noak", "x" * 4000,
    "put" * 1000, "undo undo", "names; undo", "put oak: " + HAAR_TEXT + "; nought", b"names", ["names"], ("names",),
]


class Lines(unittest.TestCase):
    def setUp(self):
        self.shop = Workshop()
        self.console = Console(self.shop)

    def state(self):
        return (self.shop.names, [self.shop.named(name) for name in self.shop.names], self.shop.wishes, len(self.shop))

    def refused(self, line, kind, **attributes):
        before = self.state()
        error = raised(self.console.say, line)
        self.assertIs(type(error), kind, line)
        self.assertEqual(list(vars(error)), list(attributes))
        for name, value in attributes.items():
            if name == "index":
                self.assertEqual(error.index, value)
            elif kind is InvalidPhrase:
                self.assertIs(error.given, value)
            else:
                self.assertEqual((error.given, type(error.given)), (value, type(value)))
        self.assertEqual(self.state(), before)

    def test_changes(self):
        say = self.console.say
        self.assertEqual(say("put oak: " + HAAR_TEXT), "done")
        self.assertEqual(self.shop.named("oak"), HAAR_PAIR)
        self.assertEqual(say(line="put ash: nought; 5: 1/2"), "done")
        self.assertEqual(self.shop.named("ash"), (NOUGHT, (5, ((1, 2),))))
        self.assertEqual(say("names"), "ash oak")
        self.assertEqual(say("drop oak"), "done")
        self.assertEqual(say("names"), "ash")
        self.assertEqual(len(self.shop), 3)
        self.assertEqual(say("undo"), "done")
        self.assertEqual((say("names"), len(self.shop)), ("ash oak", 2))
        say("undo")
        say("undo")
        self.assertEqual((say("names"), len(self.shop)), ("none", 0))

    def test_what_is_asked_changes_nothing(self):
        self.console.say("put oak: " + HAAR_TEXT)
        before = self.state()
        for line, answer in {
            "names": "oak", "splitter oak": HAAR_TEXT, "word oak": "nothing", "split oak: nought": "nought; nought",
            "split oak: 0: 5/1 3/1 8/1": "0: 5/1 11/1; 0: 5/1 5/1", "split oak: -1: 1/2": "0: 1/2; 0: -1/2",
        }.items():
            self.assertEqual(self.console.say(line), answer)
            self.assertEqual(self.console.say(line=line), answer)
            self.assertEqual(self.state(), before)

    def test_the_workshop_is_the_same(self):
        other = Console(shop=self.shop)
        self.shop.put("elm", THIN)
        self.assertEqual(self.console.say("word elm"), "endless")
        other.say("drop elm")
        self.assertEqual(self.console.say("names"), "none")

    def test_loss_words(self):
        for name, splitter in {"a": HAAR_PAIR, "b": THIN, "c": (SUMS_ROW, SUMS_ROW), "d": (NOUGHT, UNIT)}.items():
            self.shop.put(name, splitter)
            self.assertEqual(self.console.say(f"word {name}"), loss_word(splitter))

    def test_texts_of_rows_there_and_back(self):
        for number, (text, row) in enumerate(RIGHT_ROWS.items()):
            other, told = list(RIGHT_ROWS.items())[number - 1]
            self.assertEqual(self.console.say(f"put oak: {text}; {other}"), "done")
            self.assertEqual(self.shop.named("oak"), (row, told))
            self.assertEqual(self.console.say("splitter oak"), f"{text}; {other}")
            self.shop.put("id", (UNIT, (1, (ONE,))))
            even, odd = split((UNIT, (1, (ONE,))), row)
            self.assertEqual(self.console.say(f"split id: {text}"), "; ".join(text_of(one) for one in (even, odd)))

    def test_any_rows(self):
        maker = Maker(341)
        for _ in range(100):
            splitter, row = maker.pair(), maker.row()
            text = f"{text_of(splitter[0])}; {text_of(splitter[1])}"
            self.assertEqual(self.console.say(f"put oak: {text}"), "done")
            self.assertEqual(self.shop.named("oak"), splitter)
            self.assertEqual(self.console.say("splitter oak"), text)
            low, high = split(splitter, row)
            self.assertEqual(self.console.say(f"split oak: {text_of(row)}"), f"{text_of(low)}; {text_of(high)}")

    def test_what_is_no_line(self):
        self.shop.put("oak", HAAR_PAIR)
        self.shop.put("ash", THIN)
        for wrong in WRONG_LINES:
            self.refused(wrong, InvalidPhrase, given=wrong)
        for text in WRONG_ROW_TEXTS:
            for line in (f"put oak: {text}; nought", f"put oak: nought; {text}", f"split oak: {text}"):
                self.refused(line, InvalidPhrase, given=line)
        for name in ("", "Oak", "o1", "abcdefghijklm", "\u00e4", "o k", ":", "oak:"):
            for line in (
                f"drop {name}", f"word {name}", f"splitter {name}", f"put {name}: {HAAR_TEXT}", f"split {name}: nought",
            ):
                self.refused(line, InvalidPhrase, given=line)

    def test_errors_of_the_workshop(self):
        self.refused("undo", NothingToUndo)
        for line in ("drop elm", "word elm", "splitter elm", "split elm: nought"):
            self.refused(line, UnknownName, given="elm")
        self.shop.put("oak", HAAR_PAIR)
        self.shop.put("ash", HAAR_PAIR)
        self.shop.wish(("keeper", "ash"))
        self.shop.wish(("lossless", "oak"))
        self.refused("drop oak", InUse, index=1)
        self.refused("put oak: nought; nought", Broken, index=1)
        self.refused("put ash: 0: 1/1; nought", Broken, index=0)
        # The form is looked at first.
        for line in ("split elm: 0: 0/1", "put oak: nought; 0: 2/2", "drop elm ", "word elm:"):
            self.refused(line, InvalidPhrase, given=line)

    def test_what_is_no_workshop(self):
        for wrong in STRANGE + [self.console, Workshop, (Workshop(),), [Workshop()], "shop"]:
            for error in (raised(Console, wrong), raised(Console, shop=wrong)):
                self.assertIs(type(error), NotAWorkshop)
                self.assertIs(error.given, wrong)

    def test_long_lines(self):
        rows = [row_of_numbers(-1000, *[Fraction(number, 7) for number in range(1, 25)]), (900, ((HUGE, 7), (1, HUGE)))]
        line = f"put oak: {text_of(rows[0])}; {text_of(rows[1])}"
        self.assertEqual(self.console.say(line), "done")
        self.assertEqual(self.shop.named("oak"), tuple(rows))

    def test_methods_stand_in_the_class_itself(self):
        self.assertIn("say", vars(Console))
        self.assertEqual(Console.__module__, "bandsplits.consoles")
        self.assertTrue(self.console)
        self.assertNotEqual(self.console, Console(self.shop))


def text_of(row):
    """The text of a row as the document tells it."""
    if row == NOUGHT:
        return "nought"
    numbers = numbers_of(row)
    texts = [numbers.get(place, Fraction(0)) for place in range(min(numbers), max(numbers) + 1)]
    return f"{min(numbers)}:" + "".join(f" {number.numerator}/{number.denominator}" for number in texts)


if __name__ == "__main__":
    unittest.main()
