"""The errors of this package, each one under BandError alone."""


class BandError(ValueError):
    """Any error that this package raises."""


class InvalidFraction(BandError):
    """For what is no fraction."""

    def __init__(self, given):
        BandError.__init__(self, "no fraction that may stand here")
        self.given = given


class InvalidNumber(BandError):
    """For what is no whole number that may stand here."""

    def __init__(self, given):
        BandError.__init__(self, "no whole number that may stand here")
        self.given = given


class InvalidRow(BandError):
    """For what is no row."""

    def __init__(self, given):
        BandError.__init__(self, "no row that may stand here")
        self.given = given


class InvalidSplitter(BandError):
    """For what is no pair of rows."""

    def __init__(self, given):
        BandError.__init__(self, "no splitter")
        self.given = given


class InvalidJoiner(BandError):
    """For what is no pair of rows."""

    def __init__(self, given):
        BandError.__init__(self, "no joiner")
        self.given = given


class InvalidTable(BandError):
    """For what is no pair of pairs of rows."""

    def __init__(self, given):
        BandError.__init__(self, "no table")
        self.given = given


class InvalidEndless(BandError):
    """For what is no endless row."""

    def __init__(self, given):
        BandError.__init__(self, "no endless row")
        self.given = given


class InvalidTurns(BandError):
    """For what is no turns."""

    def __init__(self, given):
        BandError.__init__(self, "no turns")
        self.given = given


class InvalidLadder(BandError):
    """For what is no ladder."""

    def __init__(self, given):
        BandError.__init__(self, "no ladder that may stand here")
        self.given = given


class InvalidMask(BandError):
    """For what is no mask."""

    def __init__(self, given):
        BandError.__init__(self, "no mask")
        self.given = given


class InvalidTree(BandError):
    """For what is no tree."""

    def __init__(self, given):
        BandError.__init__(self, "no tree")
        self.given = given


class NotAPartner(BandError):
    """A row that is no partner."""

    def __init__(self, given):
        BandError.__init__(self, "no partner")
        self.given = given


class InvalidIndex(BandError):
    """For what is no index of a wish."""

    def __init__(self, given):
        BandError.__init__(self, "no index of a wish")
        self.given = given


class InvalidName(BandError):
    """For what cannot be a name."""

    def __init__(self, given):
        BandError.__init__(self, "no name")
        self.given = given


class InvalidWish(BandError):
    """For what is no wish."""

    def __init__(self, given):
        BandError.__init__(self, "no wish")
        self.given = given


class InvalidPhrase(BandError):
    """For what is no phrase."""

    def __init__(self, given):
        BandError.__init__(self, "no phrase")
        self.given = given


class NotAWorkshop(BandError):
    """For what is no workshop."""

    def __init__(self, given):
        BandError.__init__(self, "no workshop")
        self.given = given


class UnknownName(BandError):
    """For what is no name in a workshop."""

    def __init__(self, given):
        BandError.__init__(self, "no name here")
        self.given = given


class HighBelowLow(BandError):
    """A high end that is below the low one."""

    def __init__(self, given):
        BandError.__init__(self, "the high end is below the low one")
        self.given = given


class InvalidNumbers(BandError):
    """Numbers that no row can have."""

    def __init__(self, index):
        BandError.__init__(self, "no tuple of fractions")
        self.index = index


class InvalidChannels(BandError):
    """For what are no channels."""

    def __init__(self, index):
        BandError.__init__(self, "no channels")
        self.index = index


class InUse(BandError):
    """A splitter that a wish names."""

    def __init__(self, index):
        BandError.__init__(self, "a wish names this splitter")
        self.index = index


class Broken(BandError):
    """A wish that would not hold."""

    def __init__(self, index):
        BandError.__init__(self, "a wish would not hold")
        self.index = index


class NoCurve(BandError):
    """A mask that has no curve."""


class NotSteep(BandError):
    """A mask that is not steep of order 1."""


class NothingToUndo(BandError):
    """A workshop without a change that could be taken back."""
