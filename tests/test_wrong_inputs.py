"""Points 3, 4 and 5: which wrong argument raises which error, in the order of the arguments."""

import unittest

from bandsplits import rows, splitters
from bandsplits.errors import (
    InvalidChannels, InvalidJoiner, InvalidNumber, InvalidNumbers, InvalidRow, InvalidSplitter, InvalidTable,
)
from samples import (
    HUGE, NIL, NOUGHT, ONE, RIGHT_PAIR, STRANGE, UNIT, WRONG_FRACTIONS, WRONG_PAIRS, WRONG_ROWS, WRONG_TABLES,
    WRONG_WHOLES,
)

FAR = [1001, -1001, HUGE, -HUGE]


def by_given(right, error, wrongs):
    """A right value, and for each wrong one its error, which has it as `given`."""
    return (right, [(wrong, error, "given", wrong) for wrong in wrongs])


def wrong_numbers():
    """Wrong values for `numbers`, with the index of each one's error."""
    out = [(wrong, None) for wrong in STRANGE if not isinstance(wrong, tuple)]
    out += [([ONE], None), ([], None), (UNIT, 0), (ONE, 0), (ONE + ONE, 0)]
    for wrong in WRONG_FRACTIONS:
        out += [((wrong,), 0), ((ONE, wrong), 1), ((wrong, ONE), 0), ((NIL, NIL, wrong), 2)]
        # One behind the last nought counts, too, and the first one of several is told.
        out += [((ONE, NIL, wrong, NIL), 2), ((ONE, NIL, NIL, wrong), 3), ((ONE, wrong, wrong, 0), 1)]
    return [(wrong, InvalidNumbers, "index", index) for wrong, index in out]


def wrong_channels():
    """Wrong values for `channels`, with the index of each one's error."""
    out = [(wrong, None) for wrong in STRANGE if not isinstance(wrong, tuple)]
    out += [(wrong, None) for wrong in ((), (UNIT,), (UNIT, UNIT, UNIT), (0, 0, 0), [UNIT, UNIT], [0, 0])]
    for wrong in WRONG_ROWS:
        out += [((wrong, UNIT), 0), ((UNIT, wrong), 1), ((NOUGHT, wrong), 1), ((wrong, wrong), 0), ((wrong, 0), 0)]
        out += [((wrong,), None), ((wrong, UNIT, UNIT), None)]
    return [(wrong, InvalidChannels, "index", index) for wrong, index in out]


ROW = by_given((-1, ((1, 2), (0, 1), (-3, 1))), InvalidRow, WRONG_ROWS)
SPLITTER = by_given(((0, (ONE, ONE)), (1, ((1, 3),))), InvalidSplitter, WRONG_PAIRS)
JOINER = by_given(((0, (ONE, ONE)), (1, ((1, 3),))), InvalidJoiner, WRONG_PAIRS)
TABLE = by_given((RIGHT_PAIR, RIGHT_PAIR), InvalidTable, WRONG_TABLES)
NEAR_PLACE = by_given(3, InvalidNumber, WRONG_WHOLES + FAR)
ANY_PLACE = by_given(3, InvalidNumber, WRONG_WHOLES)
NUMBERS = (((1, 2), NIL), wrong_numbers())
CHANNELS = ((UNIT, NOUGHT), wrong_channels())

# Each function with its parameters, in their order.
CALLS = [
    (rows.row_of, {"start": NEAR_PLACE, "numbers": NUMBERS}),
    (rows.number_at, {"row": ROW, "place": ANY_PLACE}),
    (rows.added, {"row": ROW, "other": ROW}),
    (rows.multiplied, {"row": ROW, "other": ROW}),
    (rows.later, {"row": ROW, "places": NEAR_PLACE}),
    (rows.turned_round, {"row": ROW}),
    (rows.alternated, {"row": ROW}),
    (rows.even_part, {"row": ROW}),
    (rows.odd_part, {"row": ROW}),
    (rows.woven, {"row": ROW, "other": ROW}),
    (rows.quotient, {"row": ROW, "other": ROW}),
    (rows.common_factor, {"row": ROW, "other": ROW}),
    (splitters.split, {"splitter": SPLITTER, "row": ROW}),
    (splitters.join, {"joiner": JOINER, "channels": CHANNELS}),
    (splitters.table_of, {"splitter": SPLITTER}),
    (splitters.splitter_with, {"table": TABLE}),
    (splitters.determinant_of, {"splitter": SPLITTER}),
    (splitters.delay_of, {"splitter": SPLITTER, "joiner": JOINER}),
    (splitters.table_between, {"splitter": SPLITTER, "other": SPLITTER}),
]


def raised(function, *by_position, **by_name):
    """The error that a call raises; None if it returns."""
    try:
        function(*by_position, **by_name)
    except ValueError as error:
        return error
    return None


class WrongInputs(unittest.TestCase):
    def check(self, error, kind, attribute, value):
        self.assertIs(type(error), kind)
        self.assertEqual(list(vars(error)), [attribute])
        if attribute == "given":
            self.assertIs(error.given, value)
        else:
            self.assertEqual((error.index, type(error.index)), (value, type(value)))

    def test_right_ones_raise_nothing_by_position_and_by_name(self):
        for function, parameters in CALLS:
            with self.subTest(function.__name__):
                right = {name: told[0] for name, told in parameters.items()}
                self.assertEqual(function(*right.values()), function(**right))
                self.assertEqual(function(*right.values()), function(**dict(reversed(list(right.items())))))

    def test_each_wrong_one_raises_its_error(self):
        for function, parameters in CALLS:
            right = {name: told[0] for name, told in parameters.items()}
            for name, told in parameters.items():
                for number, (wrong, kind, attribute, value) in enumerate(told[1]):
                    with self.subTest(function.__name__, name=name, number=number):
                        named = {**right, name: wrong}
                        self.check(raised(function, *named.values()), kind, attribute, value)
                        self.check(raised(function, **named), kind, attribute, value)

    def test_the_first_wrong_argument_is_told(self):
        for function, parameters in CALLS:
            names = list(parameters)
            for at, name in enumerate(names):
                for wrong, kind, attribute, value in (parameters[name][1][0], parameters[name][1][-1]):
                    with self.subTest(function.__name__, name=name):
                        named = {before: parameters[before][0] for before in names[:at]}
                        named[name] = wrong
                        named.update({behind: parameters[behind][1][-1][0] for behind in names[at + 1:]})
                        backwards = {behind: named[behind] for behind in reversed(names)}
                        self.check(raised(function, *named.values()), kind, attribute, value)
                        self.check(raised(function, **backwards), kind, attribute, value)

    def test_lists_that_are_refused_are_not_changed(self):
        numbers, row, pair = [NIL, ONE, NIL], [0, [ONE]], [UNIT, [0, [NIL]]]
        raised(rows.row_of, 0, numbers)
        raised(rows.added, row, row)
        raised(splitters.split, pair, row)
        raised(splitters.join, (UNIT, UNIT), pair)
        self.assertEqual((numbers, row, pair), ([NIL, ONE, NIL], [0, [ONE]], [UNIT, [0, [NIL]]]))

    def test_is_row_tells_of_any_value(self):
        for number, wrong in enumerate(WRONG_ROWS):
            with self.subTest(number=number):
                self.assertIs(rows.is_row(wrong), False)
                self.assertIs(rows.is_row(value=wrong), False)
        more = [0.0, float("nan"), (0.0, ()), (0, (1.0,)), (0, ((1.0, 1),)), (0, ((1, 1.0),)), (1.5, ((1, 1),))]
        deep = []
        for _ in range(5000):
            deep = (0, (deep,))
        for wrong in more + [deep]:
            self.assertIs(rows.is_row(wrong), False)


if __name__ == "__main__":
    unittest.main()
