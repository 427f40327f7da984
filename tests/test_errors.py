"""Points 3 and 4: the classes of errors and their attributes."""

import unittest

from bandsplits import errors

WITH_GIVEN = (
    "InvalidFraction InvalidNumber InvalidRow InvalidSplitter InvalidJoiner InvalidTable InvalidEndless InvalidTurns "
    "InvalidLadder InvalidMask InvalidTree NotAPartner InvalidIndex InvalidName InvalidWish InvalidPhrase "
    "NotAWorkshop UnknownName HighBelowLow"
).split()
WITH_INDEX = "InvalidNumbers InvalidChannels InUse Broken".split()
WITHOUT = "NoCurve NotSteep NothingToUndo".split()


class Errors(unittest.TestCase):
    def test_base_stands_under_value_error_alone(self):
        self.assertEqual(errors.BandError.__bases__, (ValueError,))
        self.assertEqual(vars(errors.BandError()), {})

    def test_all_others_stand_under_the_base_alone(self):
        for name in WITH_GIVEN + WITH_INDEX + WITHOUT:
            with self.subTest(name):
                self.assertEqual(getattr(errors, name).__bases__, (errors.BandError,))
                self.assertEqual(getattr(errors, name).__name__, name)
                self.assertEqual(getattr(errors, name).__module__, "bandsplits.errors")

    def test_there_are_no_others(self):
        made = {name for name, value in vars(errors).items() if isinstance(value, type)}
        self.assertEqual(made, set(WITH_GIVEN + WITH_INDEX + WITHOUT + ["BandError"]))

    def test_attributes_are_kept_whatever_they_are(self):
        for names, attribute in ((WITH_GIVEN, "given"), (WITH_INDEX, "index")):
            for name in names:
                for value in (None, 0, -3, True, "text", [1], (), {}, object(), 10 ** 5000, ValueError("x")):
                    with self.subTest(name, attribute=attribute):
                        by_position = getattr(errors, name)(value)
                        by_name = getattr(errors, name)(**{attribute: value})
                        self.assertIs(getattr(by_position, attribute), value)
                        self.assertIs(getattr(by_name, attribute), value)
                        self.assertEqual(list(vars(by_position)), [attribute])
                        self.assertIsInstance(str(by_position), str)

    def test_attributes_must_be_given(self):
        for name in WITH_GIVEN + WITH_INDEX:
            with self.subTest(name), self.assertRaises(TypeError):
                getattr(errors, name)()

    def test_those_without_attributes(self):
        for name in WITHOUT:
            with self.subTest(name):
                self.assertEqual(vars(getattr(errors, name)()), {})


if __name__ == "__main__":
    unittest.main()
