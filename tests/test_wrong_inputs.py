"""Points 3, 4 and 5: which wrong argument raises which error, in the order of the arguments."""

import unittest

from bandsplits import (
    certificates, circle, flats, ladders, losses, masks, partners, readings, rows, splitters, trees, turns, wholes,
)
from bandsplits.errors import (
    HighBelowLow, InvalidChannels, InvalidEndless, InvalidFraction, InvalidJoiner, InvalidLadder, InvalidMask,
    InvalidNumber, InvalidNumbers, InvalidRow, InvalidSplitter, InvalidTable, InvalidTree, InvalidTurns, NoCurve,
    NotAPartner, NotSteep,
)
from samples import (
    BROKEN_LADDERS, BROKEN_ROWS, EVEN_SCALE, HUGE, NIL, NOUGHT, ONE, PLAIN, RIGHT_PAIR, STRANGE, UNIT, WRONG_ENDLESS,
    WRONG_FRACTIONS, WRONG_LADDERS, WRONG_MASKS, WRONG_PAIRS, WRONG_ROWS, WRONG_TABLES, WRONG_TREES, WRONG_TURNS,
    WRONG_WHOLES, leaning_tree, raised, tree_of_depth,
)

FAR = [1001, -1001, HUGE, -HUGE]
HALF = (1, 2)
LADDER = ((("high", (0, ((-1, 1),))), ("low", (-1, (HALF, NIL, ONE)))), EVEN_SCALE)
SUMS = (0, (ONE, ONE))


def by_given(right, error, wrongs):
    """A right value, and for each wrong one its error, which has it as `given`."""
    return (right, [(wrong, error, "given", wrong) for wrong in wrongs])


def wrong_numbers():
    """Wrong values for `numbers`, with the index of each one's error."""
    out = [(wrong, None) for wrong in STRANGE if not isinstance(wrong, tuple)]
    out += [([ONE], None), ([], None), (UNIT, 0), (ONE, 0), (ONE + ONE, 0)]
    for wrong in WRONG_FRACTIONS:
        out += [((wrong,), 0), ((ONE, wrong), 1), ((wrong, ONE), 0), ((NIL, NIL, wrong), 2)]
        # One behind the last nought counts, too, and the first one of several is told.
        out += [((ONE, NIL, wrong, NIL), 2), ((ONE, NIL, NIL, wrong), 3), ((ONE, wrong, wrong, 0), 1)]
    return [(wrong, InvalidNumbers, "index", index) for wrong, index in out]


def wrong_channels(wrong_rows):
    """Wrong values for `channels`, with the index of each one's error."""
    out = [(wrong, None) for wrong in STRANGE if not isinstance(wrong, tuple)]
    out += [(wrong, None) for wrong in ((), (UNIT,), (UNIT, UNIT, UNIT), (0, 0, 0), [UNIT, UNIT], [0, 0])]
    for wrong in wrong_rows:
        out += [((wrong, UNIT), 0), ((UNIT, wrong), 1), ((NOUGHT, wrong), 1), ((wrong, wrong), 0), ((wrong, 0), 0)]
        out += [((wrong,), None), ((wrong, UNIT, UNIT), None)]
    return [(wrong, InvalidChannels, "index", index) for wrong, index in out]


ROW = by_given((-1, ((1, 2), (0, 1), (-3, 1))), InvalidRow, WRONG_ROWS)
SPLITTER = by_given(((0, (ONE, ONE)), (1, ((1, 3),))), InvalidSplitter, WRONG_PAIRS)
JOINER = by_given(((0, (ONE, ONE)), (1, ((1, 3),))), InvalidJoiner, WRONG_PAIRS)
TABLE = by_given((RIGHT_PAIR, RIGHT_PAIR), InvalidTable, WRONG_TABLES)
NEAR_PLACE = by_given(3, InvalidNumber, WRONG_WHOLES + FAR)
ANY_PLACE = by_given(3, InvalidNumber, WRONG_WHOLES)
NUMBERS = (((1, 2), NIL), wrong_numbers())
CHANNELS = ((UNIT, NOUGHT), wrong_channels(WRONG_ROWS))

MANY = by_given(3, InvalidNumber, WRONG_WHOLES + [0, -1, 10 ** 12 + 1, HUGE, -HUGE])
ORDER = by_given(3, InvalidNumber, WRONG_WHOLES + [-1, 9, HUGE, -HUGE])
ORDER_FROM_ONE = by_given(3, InvalidNumber, WRONG_WHOLES + [0, -1, 9, HUGE, -HUGE])
ENDLESS = by_given(((ONE, (-1, 1), (-1, 1)), (NIL, ONE)), InvalidEndless, WRONG_ENDLESS)
COSINE = by_given((-3, 2), InvalidFraction, WRONG_FRACTIONS + [(3, 1), (-3, 1), (5, 2), (-5, 2), (HUGE, 1), (-HUGE, 1)])
LOW = by_given((-1, 2), InvalidFraction, WRONG_FRACTIONS)
HIGH = by_given((7, 3), InvalidFraction, WRONG_FRACTIONS)
FACTOR = by_given((-7, 3), InvalidFraction, WRONG_FRACTIONS + [NIL])
TURNS = by_given((-3, ((1, 0), (2, -3)), PLAIN), InvalidTurns, WRONG_TURNS)
ANY_LADDER = by_given(LADDER, InvalidLadder, WRONG_LADDERS)
WHOLE_LADDER = by_given(LADDER, InvalidLadder, WRONG_LADDERS + BROKEN_LADDERS)
WHOLE_ROW = by_given((-1, ((2, 1), NIL, ONE)), InvalidRow, WRONG_ROWS + BROKEN_ROWS)
WHOLE_CHANNELS = ((UNIT, (3, ((-5, 1),))), wrong_channels(WRONG_ROWS + BROKEN_ROWS))
SUMMING = by_given(SUMS, InvalidRow, WRONG_ROWS)
BESIDE_SUMS = by_given(UNIT, InvalidRow, WRONG_ROWS)
TREE = by_given(((None, None), None), InvalidTree, WRONG_TREES)
DEEPEST = by_given(2, InvalidNumber, WRONG_WHOLES + [-1, 5, HUGE, -HUGE])
MASK = by_given((0, (HALF, ONE, HALF)), InvalidMask, WRONG_MASKS)
STEPS = by_given(2, InvalidNumber, WRONG_WHOLES + [-1, 7, HUGE, -HUGE])


def wrong_leaves():
    """Wrong values for the channels of the three leaves of TREE, with the index of each one's error."""
    out = [(wrong, None) for wrong in STRANGE if not isinstance(wrong, tuple)]
    out += [((UNIT,) * many, None) for many in (0, 1, 2, 4, 8)] + [((None,) * many, None) for many in (1, 2, 4)]
    out += [([UNIT, UNIT, UNIT], None), ((UNIT, (UNIT, UNIT)), None), (((UNIT, UNIT), UNIT, UNIT), 0)]
    for wrong in WRONG_ROWS:
        out += [((wrong, UNIT, UNIT), 0), ((UNIT, wrong, UNIT), 1), ((NOUGHT, UNIT, wrong), 2)]
        out += [((UNIT, wrong, 0), 1), ((wrong, wrong, wrong), 0), ((wrong, UNIT), None)]
    return [(wrong, InvalidChannels, "index", index) for wrong, index in out]


LEAVES = ((UNIT, NOUGHT, SUMS), wrong_leaves())

# Each function with its parameters, in their order.
CALLS = [
    (rows.row_of, {"start": NEAR_PLACE, "numbers": NUMBERS}),
    (rows.number_at, {"row": ROW, "place": ANY_PLACE}),
    (rows.added, {"row": ROW, "other": ROW}),
    (rows.multiplied, {"row": ROW, "other": ROW}),
    (rows.later, {"row": ROW, "places": NEAR_PLACE}),
    (rows.turned_round, {"row": ROW}),
    (rows.alternated, {"row": ROW}),
    (rows.even_part, {"row": ROW}),
    (rows.odd_part, {"row": ROW}),
    (rows.woven, {"row": ROW, "other": ROW}),
    (rows.quotient, {"row": ROW, "other": ROW}),
    (rows.common_factor, {"row": ROW, "other": ROW}),
    (splitters.split, {"splitter": SPLITTER, "row": ROW}),
    (splitters.join, {"joiner": JOINER, "channels": CHANNELS}),
    (splitters.table_of, {"splitter": SPLITTER}),
    (splitters.splitter_with, {"table": TABLE}),
    (splitters.determinant_of, {"splitter": SPLITTER}),
    (splitters.delay_of, {"splitter": SPLITTER, "joiner": JOINER}),
    (splitters.table_between, {"splitter": SPLITTER, "other": SPLITTER}),
    (losses.loss_word, {"splitter": SPLITTER}),
    (losses.joiner_of, {"splitter": SPLITTER}),
    (losses.lost_row, {"splitter": SPLITTER}),
    (losses.value_at, {"endless": ENDLESS, "place": NEAR_PLACE}),
    (losses.channel_values, {"splitter": SPLITTER, "endless": ENDLESS, "place": NEAR_PLACE}),
    (losses.lost_endless, {"splitter": SPLITTER}),
    (circle.size_at, {"row": ROW, "cosine": COSINE}),
    (circle.touches_circle, {"row": ROW}),
    (circle.circle_zeros, {"row": ROW}),
    (circle.sizes_between, {"row": ROW, "low": LOW, "high": HIGH}),
    (circle.loses_bounded, {"splitter": SPLITTER}),
    (circle.shares_between, {"splitter": SPLITTER, "low": LOW, "high": HIGH}),
    (circle.breaking_cosine, {"splitter": SPLITTER, "low": LOW, "high": HIGH}),
    (circle.least_share, {"splitter": SPLITTER, "many": MANY}),
    (circle.greatest_share, {"splitter": SPLITTER, "many": MANY}),
    (turns.energy_factor, {"splitter": SPLITTER}),
    (turns.is_keeper, {"splitter": SPLITTER}),
    (turns.turns_of, {"splitter": SPLITTER}),
    (turns.splitter_by_turns, {"turns": TURNS}),
    (turns.keeper_with, {"row": ROW}),
    (flats.flatness_of, {"row": ROW}),
    (flats.roundness_of, {"row": ROW}),
    (flats.silences, {"row": ROW, "many": MANY}),
    (flats.carries, {"row": ROW, "many": MANY}),
    (flats.on_power, {"row": ROW, "order": ORDER}),
    (flats.symmetry_of, {"row": ROW}),
    (flats.is_half_band, {"row": ROW}),
    (flats.flattest_half_band, {"order": ORDER_FROM_ONE}),
    (ladders.splitter_of, {"ladder": ANY_LADDER}),
    (ladders.ladder_of, {"splitter": SPLITTER}),
    (ladders.climbed, {"ladder": ANY_LADDER, "row": ROW}),
    (ladders.climbed_back, {"ladder": ANY_LADDER, "channels": CHANNELS}),
    (ladders.undoing_joiner, {"ladder": ANY_LADDER}),
    (ladders.step_to, {"splitter": SPLITTER, "other": SPLITTER}),
    (wholes.split_whole, {"ladder": WHOLE_LADDER, "row": WHOLE_ROW}),
    (wholes.join_whole, {"ladder": WHOLE_LADDER, "channels": WHOLE_CHANNELS}),
    (wholes.least_multiple, {"ladder": WHOLE_LADDER}),
    (wholes.is_rounded, {"ladder": WHOLE_LADDER, "row": WHOLE_ROW}),
    (wholes.rounding_bounds, {"ladder": WHOLE_LADDER}),
    (partners.partner_of, {"row": ROW}),
    (partners.partner_bar, {"row": ROW}),
    (partners.is_partner, {"row": ROW, "other": ROW}),
    (partners.partner_by, {
        "row": SUMMING, "other": BESIDE_SUMS, "factor": FACTOR, "places": NEAR_PLACE, "step": ROW,
    }),
    (partners.partner_parts, {"row": SUMMING, "other": BESIDE_SUMS, "third": BESIDE_SUMS}),
    (partners.flat_partner, {"row": ROW, "many": ORDER}),
    (readings.do_tell, {"row": ROW, "other": ROW}),
    (readings.splitter_for, {"row": ROW, "channels": CHANNELS}),
    (readings.splitter_read, {"row": ROW, "channels": CHANNELS, "other": ROW, "others": CHANNELS}),
    (readings.unlike_splitter, {"splitter": SPLITTER, "row": ROW, "other": ROW}),
    (trees.leaf_rows, {"splitter": SPLITTER, "tree": TREE}),
    (trees.tree_channels, {"splitter": SPLITTER, "tree": TREE, "row": ROW}),
    (trees.tree_joined, {"joiner": JOINER, "tree": TREE, "channels": LEAVES}),
    (trees.fewest_tree, {"splitter": SPLITTER, "row": ROW, "many": DEEPEST}),
    (trees.fewest_numbers, {"splitter": SPLITTER, "row": ROW, "many": DEEPEST}),
    (masks.halved, {"mask": MASK, "row": ROW}),
    (masks.staircase, {"mask": MASK, "row": ROW, "steps": STEPS}),
    (masks.transfer, {"mask": MASK, "row": ROW}),
    (masks.transfer_rule, {"mask": MASK}),
    (masks.has_curve, {"mask": MASK}),
    (masks.inner_products, {"mask": MASK}),
    (masks.has_right_angles, {"mask": MASK}),
    (masks.curve_moment, {"mask": MASK, "order": ORDER}),
    (masks.steepness, {"mask": MASK}),
    (masks.curve_at, {"mask": MASK, "place": ANY_PLACE, "steps": STEPS}),
    (certificates.certify_loss, {"splitter": SPLITTER}),
    (certificates.certify_between, {"splitter": SPLITTER, "low": LOW, "high": HIGH}),
    (certificates.certify_keeper, {"splitter": SPLITTER}),
    (certificates.certify_partner, {"row": ROW}),
    (certificates.certify_flat, {"row": ROW, "order": ORDER}),
    (certificates.certify_curve, {"mask": MASK}),
    (certificates.certify_telling, {"row": ROW, "other": ROW}),
    (certificates.certify_rounding, {"ladder": WHOLE_LADDER, "many": MANY}),
]


class WrongInputs(unittest.TestCase):
    def check(self, error, kind, attribute, value):
        self.assertIs(type(error), kind)
        self.assertEqual(list(vars(error)), [attribute])
        if attribute == "given":
            self.assertIs(error.given, value)
        else:
            self.assertEqual((error.index, type(error.index)), (value, type(value)))

    def test_right_ones_raise_nothing_by_position_and_by_name(self):
        for function, parameters in CALLS:
            with self.subTest(function.__name__):
                right = {name: told[0] for name, told in parameters.items()}
                self.assertEqual(function(*right.values()), function(**right))
                self.assertEqual(function(*right.values()), function(**dict(reversed(list(right.items())))))

    def test_each_wrong_one_raises_its_error(self):
        for function, parameters in CALLS:
            right = {name: told[0] for name, told in parameters.items()}
            for name, told in parameters.items():
                for number, (wrong, kind, attribute, value) in enumerate(told[1]):
                    with self.subTest(function.__name__, name=name, number=number):
                        named = {**right, name: wrong}
                        self.check(raised(function, *named.values()), kind, attribute, value)
                        self.check(raised(function, **named), kind, attribute, value)

    def test_the_first_wrong_argument_is_told(self):
        for function, parameters in CALLS:
            names = list(parameters)
            for at, name in enumerate(names):
                for wrong, kind, attribute, value in (parameters[name][1][0], parameters[name][1][-1]):
                    with self.subTest(function.__name__, name=name):
                        named = {before: parameters[before][0] for before in names[:at]}
                        named[name] = wrong
                        named.update({behind: parameters[behind][1][-1][0] for behind in names[at + 1:]})
                        backwards = {behind: named[behind] for behind in reversed(names)}
                        self.check(raised(function, *named.values()), kind, attribute, value)
                        self.check(raised(function, **backwards), kind, attribute, value)

    def test_lists_that_are_refused_are_not_changed(self):
        numbers, row, pair = [NIL, ONE, NIL], [0, [ONE]], [UNIT, [0, [NIL]]]
        raised(rows.row_of, 0, numbers)
        raised(rows.added, row, row)
        raised(splitters.split, pair, row)
        raised(splitters.join, (UNIT, UNIT), pair)
        self.assertEqual((numbers, row, pair), ([NIL, ONE, NIL], [0, [ONE]], [UNIT, [0, [NIL]]]))

    def test_is_row_tells_of_any_value(self):
        for number, wrong in enumerate(WRONG_ROWS):
            with self.subTest(number=number):
                self.assertIs(rows.is_row(wrong), False)
                self.assertIs(rows.is_row(value=wrong), False)
        more = [0.0, float("nan"), (0.0, ()), (0, (1.0,)), (0, ((1.0, 1),)), (0, ((1, 1.0),)), (1.5, ((1, 1),))]
        deep = []
        for _ in range(5000):
            deep = (0, (deep,))
        for wrong in more + [deep]:
            self.assertIs(rows.is_row(wrong), False)

    def test_what_tells_of_any_value(self):
        for asked, right, wrongs in (
            (losses.is_endless, ENDLESS[0], WRONG_ENDLESS), (turns.is_turns, TURNS[0], WRONG_TURNS),
            (ladders.is_ladder, LADDER, WRONG_LADDERS), (trees.is_tree, TREE[0], WRONG_TREES),
            (masks.is_mask, MASK[0], WRONG_MASKS),
        ):
            self.assertIs(asked(right), True)
            self.assertIs(asked(value=right), True)
            deep = []
            for _ in range(5000):
                deep = (deep, deep)
            for number, wrong in enumerate(wrongs + [0.0, (0.0, 0.0), (0.0, (), PLAIN), deep, (deep, deep, deep)]):
                with self.subTest(asked.__name__, number=number):
                    self.assertIs(asked(wrong), False)
                    self.assertIs(asked(value=wrong), False)

    def test_a_high_end_below_the_low_one_comes_last(self):
        for function, name, right in (
            (circle.sizes_between, "row", ROW), (circle.shares_between, "splitter", SPLITTER),
            (circle.breaking_cosine, "splitter", SPLITTER), (certificates.certify_between, "splitter", SPLITTER),
        ):
            for low, high in ((ONE, NIL), ((1, 2), (1, 3)), ((-1, 3), (-1, 2)), (NIL, (-1, HUGE)), ((HUGE, 1), ONE)):
                with self.subTest(function.__name__, low=low, high=high):
                    self.check(raised(function, right[0], low, high), HighBelowLow, "given", high)
                    self.check(raised(function, high=high, low=low, **{name: right[0]}), HighBelowLow, "given", high)
                    wrong, kind, attribute, value = right[1][0]
                    self.check(raised(function, wrong, low, high), kind, attribute, value)
            self.assertIsNone(raised(function, right[0], ONE, ONE))

    def test_no_partner_comes_last(self):
        # The partners of SUMS are those with parts u, v of which u - v is a single row.
        one, two = (0, (ONE, ONE, ONE)), (0, (ONE, NIL, ONE))
        self.check(raised(partners.partner_by, SUMS, SUMS, ONE, 0, NOUGHT), NotAPartner, "given", SUMS)
        self.check(raised(partners.partner_by, NOUGHT, UNIT, ONE, 0, NOUGHT), NotAPartner, "given", UNIT)
        self.check(raised(partners.partner_by, SUMS, NOUGHT, NIL, 0, NOUGHT), InvalidFraction, "given", NIL)
        self.check(raised(partners.partner_by, SUMS, NOUGHT, ONE, 1001, None), InvalidNumber, "given", 1001)
        self.check(raised(partners.partner_by, SUMS, NOUGHT, ONE, 1000, None), InvalidRow, "given", None)
        self.check(raised(partners.partner_parts, SUMS, two, UNIT), NotAPartner, "given", two)
        self.check(raised(partners.partner_parts, SUMS, UNIT, two), NotAPartner, "given", two)
        self.check(raised(partners.partner_parts, SUMS, SUMS, two), NotAPartner, "given", SUMS)
        self.check(raised(partners.partner_parts, SUMS, SUMS, None), InvalidRow, "given", None)
        self.check(raised(partners.partner_parts, row=SUMS, third=two, other=NOUGHT), NotAPartner, "given", NOUGHT)
        self.assertIsNone(raised(partners.partner_parts, SUMS, UNIT, one))

    def test_no_curve_comes_last(self):
        # The parts of the first one do not sum to 1, and staircases of the second one do not come to a curve.
        for mask in ((0, (ONE, (2, 1))), (0, (ONE, NIL, NIL, ONE))):
            for function, more in (
                (masks.inner_products, {}), (masks.has_right_angles, {}), (masks.curve_moment, {"order": 0}),
                (masks.curve_moment, {"order": 8}),
            ):
                with self.subTest(function.__name__, mask=mask):
                    for error in (raised(function, mask, *more.values()), raised(function, mask=mask, **more)):
                        self.assertIs(type(error), NoCurve)
                        self.assertEqual(vars(error), {})
            for order in (-1, 9, None, True):
                self.check(raised(masks.curve_moment, mask, order), InvalidNumber, "given", order)
                self.check(raised(masks.curve_moment, order=order, mask=mask), InvalidNumber, "given", order)

    def test_not_steep_comes_last(self):
        # The second and the third one have no curve.
        for mask in ((0, (ONE, ONE)), (0, (ONE, (2, 1))), (0, (ONE, NIL, NIL, ONE))):
            for place, steps in ((0, 0), (1, 6), (-HUGE, 3), (HUGE, 0)):
                for error in (raised(masks.curve_at, mask, place, steps),
                              raised(masks.curve_at, steps=steps, place=place, mask=mask)):
                    self.assertIs(type(error), NotSteep)
                    self.assertEqual(vars(error), {})
            self.check(raised(masks.curve_at, mask, None, 7), InvalidNumber, "given", None)
            self.check(raised(masks.curve_at, mask, 0, 7), InvalidNumber, "given", 7)

    def test_the_ends_of_what_is_let(self):
        for deep in range(5):
            self.assertIs(trees.is_tree(tree_of_depth(deep)), True)
            self.assertIs(trees.is_tree(leaning_tree(deep, 0)), True)
            self.assertIs(trees.is_tree(leaning_tree(deep, 1)), True)
        for many in (0, 4):
            self.assertIsNone(raised(trees.fewest_tree, SPLITTER[0], ROW[0], many))
            self.assertIsNone(raised(trees.fewest_numbers, SPLITTER[0], ROW[0], many))
        for steps in (0, 6):
            self.assertIsNone(raised(masks.staircase, MASK[0], ROW[0], steps))
            self.assertIsNone(raised(masks.curve_at, MASK[0], HUGE, steps))
        for many in (2, 9):
            self.assertIs(masks.is_mask((0, (ONE,) * many)), True)
            self.assertIs(masks.is_mask((0, ((-1, HUGE),) + (NIL,) * (many - 2) + ((HUGE, 1),))), True)
        for order in (0, 8):
            self.assertIsNone(raised(masks.curve_moment, MASK[0], order))
            self.assertIsNone(raised(certificates.certify_flat, ROW[0], order))
        for many in (1, 10 ** 12):
            self.assertIsNone(raised(certificates.certify_rounding, LADDER, many))
        for many in (1, 10 ** 12):
            for function in (circle.least_share, circle.greatest_share):
                self.assertIsNone(raised(function, SPLITTER[0], many))
            for function in (flats.silences, flats.carries):
                self.assertIsNone(raised(function, ROW[0], many))
        for order in (0, 8):
            self.assertIsNone(raised(flats.on_power, ROW[0], order))
            self.assertIsNone(raised(partners.flat_partner, ROW[0], order))
        for order in (1, 8):
            self.assertIsNone(raised(flats.flattest_half_band, order))
        for place in (-1000, 1000):
            self.assertIsNone(raised(losses.value_at, ENDLESS[0], place))
            self.assertIsNone(raised(losses.channel_values, SPLITTER[0], ENDLESS[0], place))
            self.assertIsNone(raised(partners.partner_by, SUMS, UNIT, ONE, place, NOUGHT))
        for cosine in ((-2, 1), (2, 1)):
            self.assertIsNone(raised(circle.size_at, ROW[0], cosine))


if __name__ == "__main__":
    unittest.main()
