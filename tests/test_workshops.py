"""Point 38: workshops, their wishes, changes taken back, trials."""

import unittest
from fractions import Fraction

from bandsplits import circle, flats, losses, turns, workshops
from bandsplits.errors import (
    Broken, HighBelowLow, InUse, InvalidIndex, InvalidName, InvalidSplitter, InvalidWish, NothingToUndo, UnknownName,
)
from bandsplits.workshops import Workshop
from samples import (
    GAPS_ROW, HAAR_PAIR, HUGE, NIL, NOUGHT, ONE, STRANGE, SUMS_ROW, UNIT, WRONG_FRACTIONS, WRONG_PAIRS, WRONG_WHOLES,
    Maker, Touchy, raised, times,
)

THIN = ((0, (ONE, NIL, ONE)), (1, (ONE,)))
LEAN = (UNIT, (1, (ONE, ONE)))
MEANS = ((0, ((1, 2), (1, 2))), (0, ((-1, 1), ONE)))
FLAT = (UNIT, (1, (ONE, (-2, 1), ONE)))
SPLITTERS = [HAAR_PAIR, THIN, LEAN, MEANS, FLAT, (NOUGHT, NOUGHT), (SUMS_ROW, SUMS_ROW), (UNIT, (1, (ONE,)))]

RIGHT_NAMES = ["a", "z", "oak", "abcdefghijkl", "zzzzzzzzzzzz"]
WRONG_NAMES = [wrong for wrong in STRANGE if not isinstance(wrong, str)] + [
    "", "abcdefghijklm", "A", "Oak", "oak1", "o-k", "o k", " oak", "oak ", "oak\n", "1", "_", "`", "{", "\u00e4", "\u0131",
    "a" * 4000, b"oak", 1, ("oak",), ["oak"],
]

TWO = (2, 1)
WISHES = [
    ("lossless", "a"), ("keeper", "a"), ("between", "a", TWO, TWO), ("between", "a", NIL, (4, 1)),
    ("between", "a", (-1, HUGE), (HUGE, 1)), ("flat", "a", 1), ("flat", "a", 8), ("flat", "a", 2),
]
WRONG_WISHES = [wrong for wrong in STRANGE] + [
    ("lossless",), ("lossless", "a", "b"), ("lossless", "a", ()), ["lossless", "a"], ("Lossless", "a"), ("loss", "a"),
    ("", "a"), ("keeper",), ("keeper", "a", TWO), ("keeper", "keeper", "keeper"), (b"keeper", "a"), ("a", "keeper"),
    (None, "a"), (Touchy(), "a"), ("keeper", Touchy()), (("keeper",), "a"), ("keepers", "a"), ("keeper ", "a"),
    ("between", "a"), ("between", "a", TWO), ("between", "a", TWO, TWO, TWO), ("between", "a", TWO, ONE),
    ("between", "a", (1, 2), (1, 3)), ("between", "a", (TWO, TWO)), ("between", TWO, "a", TWO), ("between", "a", 0, 2),
    ("flat", "a"), ("flat", "a", 0), ("flat", "a", 9), ("flat", "a", -1), ("flat", "a", HUGE), ("flat", "a", 1, 1),
    ("flat", "a", ONE), ("flat", 1, "a"), "lossless", "keeper", ("between",), ("flat",),
] + [("keeper", wrong) for wrong in WRONG_NAMES] + [("flat", wrong, 1) for wrong in WRONG_NAMES] + [
    ("flat", "a", wrong) for wrong in WRONG_WHOLES
] + [("between", "a", wrong, (HUGE, 1)) for wrong in WRONG_FRACTIONS] + [
    ("between", "a", (-HUGE, 1), wrong) for wrong in WRONG_FRACTIONS
]


def state(shop):
    return (shop.names, tuple(shop.named(name) for name in shop.names), shop.wishes, len(shop))


def holds(wish, splitter):
    """Whether a wish holds, as the other parts of the program tell it."""
    word = wish[0]
    if word == "lossless":
        return losses.loss_word(splitter) == "nothing"
    if word == "keeper":
        return turns.energy_factor(splitter) is not None
    if word == "between":
        return circle.breaking_cosine(splitter, wish[2], wish[3]) is None
    return splitter[1] == NOUGHT or flats.flatness_of(splitter[1]) >= wish[2]


class Checked(unittest.TestCase):
    def refused(self, shop, error, attributes, action, *by_position, **by_name):
        """Look whether a call raises this error with these attributes, and changes nothing."""
        before = state(shop)
        got = raised(action, *by_position, **by_name)
        self.assertIs(type(got), error)
        self.assertEqual(list(vars(got)), list(attributes))
        for name, value in attributes.items():
            if name == "index":
                self.assertEqual((got.index, type(got.index)), (value, type(value)))
            else:
                self.assertIs(getattr(got, name), value)
        self.assertEqual(state(shop), before)


class Splitters(Checked):
    def test_an_empty_one(self):
        shop = Workshop()
        self.assertEqual((shop.names, shop.wishes, len(shop)), ((), (), 0))
        self.assertIs(bool(shop), True)
        self.refused(shop, NothingToUndo, {}, shop.undo)
        self.assertNotIn("a", shop)

    def test_names_and_what_stands_under_them(self):
        shop = Workshop()
        for count, name in enumerate(RIGHT_NAMES):
            self.assertIsNone(shop.put(name, SPLITTERS[count]))
            self.assertEqual(shop.named(name), SPLITTERS[count])
            self.assertEqual(shop.named(name=name), SPLITTERS[count])
            self.assertIn(name, shop)
            self.assertEqual(shop.names, tuple(sorted(RIGHT_NAMES[:count + 1])))
            self.assertEqual(len(shop), count + 1)
        self.assertIsInstance(shop.names, tuple)
        self.assertIsNone(shop.put(splitter=LEAN, name="oak"))
        self.assertEqual(shop.named("oak"), LEAN)
        self.assertEqual((shop.names, len(shop)), (tuple(sorted(RIGHT_NAMES)), len(RIGHT_NAMES) + 1))
        self.assertIsNone(shop.drop("oak"))
        self.assertNotIn("oak", shop)
        self.assertIsNone(shop.drop(name="a"))
        self.assertEqual(shop.names, ("abcdefghijkl", "z", "zzzzzzzzzzzz"))
        self.refused(shop, UnknownName, {"given": "oak"}, shop.drop, "oak")
        self.refused(shop, UnknownName, {"given": "oak"}, shop.named, "oak")

    def test_what_is_no_name(self):
        shop = Workshop()
        shop.put("oak", HAAR_PAIR)
        for wrong in WRONG_NAMES:
            self.refused(shop, InvalidName, {"given": wrong}, shop.put, wrong, HAAR_PAIR)
            self.refused(shop, InvalidName, {"given": wrong}, shop.put, wrong, None)
            self.refused(shop, InvalidName, {"given": wrong}, shop.put, splitter=None, name=wrong)
            self.refused(shop, UnknownName, {"given": wrong}, shop.drop, wrong)
            self.refused(shop, UnknownName, {"given": wrong}, shop.named, wrong)
            self.assertIs(wrong in shop, False)

    def test_what_is_no_splitter(self):
        shop = Workshop()
        shop.put("oak", HAAR_PAIR)
        for wrong in WRONG_PAIRS:
            self.refused(shop, InvalidSplitter, {"given": wrong}, shop.put, "oak", wrong)
        self.refused(shop, InvalidSplitter, {"given": None}, shop.put, splitter=None, name="ash")

    def test_putting_the_same_is_a_change(self):
        shop = Workshop()
        for count in range(1, 4):
            shop.put("oak", HAAR_PAIR)
            self.assertEqual(len(shop), count)

    def test_equal_to_itself_alone(self):
        shop, other = Workshop(), Workshop()
        self.assertTrue(shop == shop)
        self.assertFalse(shop != shop)
        for value in [other, None, 0, (), "shop", {}, Touchy]:
            self.assertFalse(shop == value)
            self.assertTrue(shop != value)

    def test_each_has_its_own(self):
        shop, other = Workshop(), Workshop()
        shop.put("oak", HAAR_PAIR)
        shop.wish(("keeper", "oak"))
        self.assertEqual(state(other), ((), (), (), 0))

    def test_methods_stand_in_the_class_itself(self):
        for name in "put drop wish lift named undo trial tried __len__ __contains__ __bool__ names wishes".split():
            self.assertIn(name, vars(Workshop))
        self.assertEqual(Workshop.__module__, "bandsplits.workshops")
        self.assertIs(workshops.Workshop, Workshop)


class Wishes(Checked):
    def test_each_as_it_holds(self):
        seen = set()
        for splitter in SPLITTERS:
            for wish in WISHES:
                shop = Workshop()
                shop.put("b", HAAR_PAIR)
                shop.put("a", splitter)
                seen.add((wish[0], holds(wish, splitter)))
                with self.subTest(splitter=splitter, wish=wish):
                    if holds(wish, splitter):
                        self.assertIsNone(shop.wish(wish))
                        self.assertEqual((shop.wishes, len(shop)), ((wish,), 3))
                    else:
                        self.refused(shop, Broken, {"index": 0}, shop.wish, wish)
        self.assertEqual(len(seen), 8)

    def test_the_meaning_of_each(self):
        shop = Workshop()
        shop.put("a", HAAR_PAIR)
        self.assertIsNone(raised(shop.wish, ("lossless", "a")))
        self.assertIsNone(raised(shop.wish, ("keeper", "a")))
        self.assertIsNone(raised(shop.wish, ("between", "a", TWO, TWO)))
        self.assertIsNone(raised(shop.wish, wish=("flat", "a", 1)))
        self.refused(shop, Broken, {"index": 4}, shop.wish, ("between", "a", (1999, 1000), (1999, 1000)))
        self.refused(shop, Broken, {"index": 4}, shop.wish, ("between", "a", (2001, 1000), (3, 1)))
        self.refused(shop, Broken, {"index": 4}, shop.wish, ("flat", "a", 2))
        # It is the high row that is to be flat; the nought row is as flat as told.
        shop.put("b", (GAPS_ROW, SUMS_ROW))
        self.refused(shop, Broken, {"index": 4}, shop.wish, ("flat", "b", 1))
        shop.put("b", (SUMS_ROW, NOUGHT))
        self.assertIsNone(shop.wish(("flat", "b", 8)))
        self.refused(shop, Broken, {"index": 5}, shop.wish, ("lossless", "b"))
        # All shares are 0, but a keeper has a factor above 0.
        shop.put("c", (NOUGHT, NOUGHT))
        self.assertIsNone(shop.wish(("between", "c", NIL, NIL)))
        self.refused(shop, Broken, {"index": 6}, shop.wish, ("keeper", "c"))

    def test_what_is_no_wish(self):
        shop = Workshop()
        shop.put("a", HAAR_PAIR)
        shop.wish(("keeper", "a"))
        for wrong in WRONG_WISHES:
            self.refused(shop, InvalidWish, {"given": wrong}, shop.wish, wrong)
            self.refused(shop, InvalidWish, {"given": wrong}, shop.wish, wish=wrong)
        self.assertFalse(issubclass(InvalidWish, HighBelowLow))

    def test_an_unknown_name(self):
        shop = Workshop()
        shop.put("b", THIN)
        for wish in WISHES:
            self.refused(shop, UnknownName, {"given": wish[1]}, shop.wish, wish)
        self.refused(shop, Broken, {"index": 0}, shop.wish, ("lossless", "b"))

    def test_the_same_wish_again_is_a_change(self):
        shop = Workshop()
        shop.put("a", HAAR_PAIR)
        for count in range(3):
            shop.wish(("keeper", "a"))
            self.assertEqual((shop.wishes, len(shop)), ((("keeper", "a"),) * (count + 1), count + 2))
        shop.lift(1)
        self.assertEqual((shop.wishes, len(shop)), ((("keeper", "a"),) * 2, 5))

    def test_a_put_that_breaks_one(self):
        shop = Workshop()
        shop.put("a", HAAR_PAIR)
        shop.put("b", HAAR_PAIR)
        for wish in (("lossless", "b"), ("flat", "a", 1), ("lossless", "a"), ("keeper", "a"), ("between", "b", TWO, TWO)):
            shop.wish(wish)
        # The index is that among all wishes, of the first one.
        self.refused(shop, Broken, {"index": 1}, shop.put, "a", THIN)
        self.refused(shop, Broken, {"index": 2}, shop.put, "a", (UNIT, NOUGHT))
        self.refused(shop, Broken, {"index": 3}, shop.put, "a", MEANS)
        self.refused(shop, Broken, {"index": 4}, shop.put, "b", MEANS)
        self.refused(shop, Broken, {"index": 0}, shop.put, "b", THIN)
        self.refused(shop, Broken, {"index": 0}, shop.put, splitter=THIN, name="b")
        self.assertIsNone(shop.put("c", THIN))
        thrice = (times(Fraction(3), SUMS_ROW), times(Fraction(3), GAPS_ROW))
        self.assertIsNone(shop.put("a", thrice))
        self.refused(shop, Broken, {"index": 4}, shop.put, "b", thrice)

    def test_a_drop_of_what_is_in_use(self):
        shop = Workshop()
        for name in "abc":
            shop.put(name, HAAR_PAIR)
        shop.wish(("keeper", "b"))
        shop.wish(("keeper", "a"))
        shop.wish(("lossless", "b"))
        self.refused(shop, InUse, {"index": 0}, shop.drop, "b")
        self.refused(shop, InUse, {"index": 1}, shop.drop, name="a")
        self.assertIsNone(shop.drop("c"))
        shop.lift(0)
        self.refused(shop, InUse, {"index": 1}, shop.drop, "b")
        shop.lift(index=1)
        self.assertIsNone(shop.drop("b"))
        self.refused(shop, InUse, {"index": 0}, shop.drop, "a")

    def test_what_is_no_index(self):
        shop = Workshop()
        for wrong in (0, -1, 1):
            self.refused(shop, InvalidIndex, {"given": wrong}, shop.lift, wrong)
        shop.put("a", HAAR_PAIR)
        shop.wish(("keeper", "a"))
        shop.wish(("lossless", "a"))
        for wrong in WRONG_WHOLES + [-1, -2, 2, 3, HUGE, -HUGE]:
            self.refused(shop, InvalidIndex, {"given": wrong}, shop.lift, wrong)
        self.refused(shop, InvalidIndex, {"given": True}, shop.lift, index=True)
        self.assertIsNone(shop.lift(1))
        self.assertEqual(shop.wishes, (("keeper", "a"),))
        self.refused(shop, InvalidIndex, {"given": 1}, shop.lift, 1)
        self.assertIsNone(shop.lift(0))
        self.assertEqual((shop.wishes, len(shop)), ((), 5))


class Undoing(Checked):
    def test_each_change_leads_back(self):
        shop = Workshop()
        changes = [
            (shop.put, "a", HAAR_PAIR), (shop.put, "b", THIN), (shop.wish, ("keeper", "a")), (shop.put, "b", LEAN),
            (shop.drop, "b"), (shop.wish, ("flat", "a", 1)), (shop.lift, 0), (shop.put, "a", MEANS), (shop.lift, 0),
            (shop.drop, "a"),
        ]
        states = [state(shop)]
        for change in changes:
            self.assertIsNone(change[0](*change[1:]))
            states.append(state(shop))
        self.assertEqual([told[3] for told in states], list(range(len(changes) + 1)))
        for told in states[-2::-1]:
            self.assertIsNone(shop.undo())
            self.assertEqual(state(shop), told)
        self.refused(shop, NothingToUndo, {}, shop.undo)

    def test_wishes_hold_again(self):
        shop = Workshop()
        shop.put("a", HAAR_PAIR)
        shop.wish(("keeper", "a"))
        shop.lift(0)
        shop.put("a", THIN)
        shop.undo()
        self.assertEqual(shop.named("a"), HAAR_PAIR)
        shop.undo()
        self.refused(shop, Broken, {"index": 0}, shop.put, "a", THIN)

    def test_changes_behind_an_undo(self):
        shop = Workshop()
        shop.put("a", HAAR_PAIR)
        shop.put("a", THIN)
        shop.undo()
        shop.put("b", LEAN)
        self.assertEqual((shop.names, len(shop)), (("a", "b"), 2))
        shop.undo()
        shop.undo()
        self.assertEqual(state(shop), ((), (), (), 0))

    def test_many_changes_at_random(self):
        for seed in range(30):
            maker, shop, states = Maker(seed), Workshop(), []
            for _ in range(60):
                before = state(shop)
                name = maker.random.choice("abc")
                wish = list(maker.random.choice(WISHES))
                wish[1] = name
                error = raised(*maker.random.choice([
                    (shop.put, name, maker.random.choice(SPLITTERS)), (shop.put, name, maker.random.choice(SPLITTERS)),
                    (shop.drop, name), (shop.wish, tuple(wish)), (shop.wish, tuple(wish)),
                    (shop.lift, maker.random.randint(-1, 3)), (shop.undo,),
                ]))
                # After each change all wishes hold; an error changes nothing.
                for index, one in enumerate(shop.wishes):
                    self.assertTrue(holds(one, shop.named(one[1])), index)
                if error is not None:
                    self.assertEqual(state(shop), before)
                elif len(shop) == len(states) + 1:
                    states.append(before)
                else:
                    self.assertEqual(state(shop), states.pop())
            while states:
                shop.undo()
                self.assertEqual(state(shop), states.pop())


class Special(BaseException):
    """An exception of no ordinary class."""


class Trials(Checked):
    def setUp(self):
        self.shop = Workshop()
        self.shop.put("a", HAAR_PAIR)
        self.shop.wish(("keeper", "a"))
        self.shop.put("b", THIN)

    def test_a_block_that_ends_well(self):
        with self.shop.trial() as inside:
            self.assertIs(inside, self.shop)
            inside.put("c", LEAN)
            inside.drop("b")
        self.assertEqual((self.shop.names, len(self.shop)), (("a", "c"), 5))
        # Each change is one by itself.
        self.shop.undo()
        self.assertEqual((self.shop.names, len(self.shop)), (("a", "b", "c"), 4))

    def test_exceptions_of_whatever_class(self):
        before = state(self.shop)
        for error in (ValueError("x"), KeyboardInterrupt(), SystemExit(3), Special(), GeneratorExit(), Broken(7)):
            with self.assertRaises(type(error)) as caught:
                with self.shop.trial() as inside:
                    inside.put("c", LEAN)
                    inside.lift(0)
                    inside.drop("a")
                    raise error
            self.assertIs(caught.exception, error)
            self.assertEqual(state(self.shop), before)
        for _ in range(3):
            self.shop.undo()
        self.assertEqual(state(self.shop), ((), (), (), 0))

    def test_an_error_of_the_workshop_itself(self):
        before = state(self.shop)
        with self.assertRaises(Broken):
            with self.shop.trial():
                self.shop.put("c", LEAN)
                self.shop.put("a", THIN)
        self.assertEqual(state(self.shop), before)

    def test_a_call_alone_changes_nothing(self):
        before = state(self.shop)
        trial = self.shop.trial()
        self.assertEqual(state(self.shop), before)
        # It counts what was when the block was entered.
        self.shop.put("c", LEAN)
        between = state(self.shop)
        with self.assertRaises(KeyError):
            with trial:
                self.shop.drop("c")
                raise KeyError
        self.assertEqual(state(self.shop), between)

    def test_the_same_trial_again(self):
        trial = self.shop.trial()
        with trial:
            self.shop.put("c", LEAN)
        first = state(self.shop)
        with self.assertRaises(KeyError):
            with trial:
                self.shop.put("d", LEAN)
                second = state(self.shop)
                with self.assertRaises(IndexError):
                    with trial:
                        self.shop.put("e", LEAN)
                        raise IndexError
                self.assertEqual(state(self.shop), second)
                raise KeyError
        self.assertEqual(state(self.shop), first)

    def test_undoing_what_was_before(self):
        before = state(self.shop)
        with self.assertRaises(Special):
            with self.shop.trial():
                for _ in range(3):
                    self.shop.undo()
                self.assertEqual(state(self.shop), ((), (), (), 0))
                self.shop.put("z", THIN)
                raise Special
        self.assertEqual(state(self.shop), before)
        with self.shop.trial():
            self.shop.undo()
            self.shop.undo()
        self.assertEqual(state(self.shop), (("a",), (HAAR_PAIR,), (), 1))
        self.shop.undo()
        self.refused(self.shop, NothingToUndo, {}, self.shop.undo)

    def test_trials_within_trials(self):
        before = state(self.shop)
        with self.assertRaises(Special):
            with self.shop.trial():
                self.shop.put("c", LEAN)
                middle = state(self.shop)
                with self.assertRaises(KeyError):
                    with self.shop.trial():
                        self.shop.undo()
                        self.shop.undo()
                        self.shop.put("d", LEAN)
                        raise KeyError
                self.assertEqual(state(self.shop), middle)
                with self.shop.trial():
                    self.shop.put("e", LEAN)
                self.assertIn("e", self.shop)
                raise Special
        self.assertEqual(state(self.shop), before)

    def test_tried(self):
        before = state(self.shop)
        answer = object()

        def action(inside):
            self.assertIs(inside, self.shop)
            inside.put("c", LEAN)
            return answer

        def failing(inside):
            inside.undo()
            inside.put("d", LEAN)
            raise Special

        self.assertIs(self.shop.tried(action), answer)
        self.assertEqual((self.shop.names, len(self.shop)), (("a", "b", "c"), 4))
        self.shop.undo()
        with self.assertRaises(Special):
            self.shop.tried(action=failing)
        self.assertEqual(state(self.shop), before)
        self.assertIsNone(self.shop.tried(lambda inside: None))
        self.assertEqual(self.shop.tried(lambda inside: inside.tried(lambda within: within.names)), ("a", "b"))


if __name__ == "__main__":
    unittest.main()
