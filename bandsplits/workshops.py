"""Workshops: splitters under names, wishes that always hold, and changes that can be taken back."""

from bandsplits.errors import (
    Broken, InUse, InvalidIndex, InvalidName, InvalidWish, NothingToUndo, UnknownName,
)
from bandsplits.ratios import is_whole
from bandsplits.splitters import need_splitter
from bandsplits.wishes import is_fulfilled, is_name, is_wish


class Kept:
    """What a workshop was when the block of a trial was entered, and what is kept for the blocks around it."""

    def __init__(self, splitters, granted, past, outer):
        self.splitters = splitters
        self.granted = granted
        self.past = past
        self.outer = outer


class Trial:
    """For a `with` statement: a block that ends with an exception leaves the workshop as it was."""

    def __init__(self, shop):
        self.shop = shop
        self.kept = None

    def __enter__(self):
        shop = self.shop
        self.kept = Kept(shop.splitters, shop.granted, list(shop.past), self.kept)
        return shop

    def __exit__(self, kind, value, trace):
        shop = self.shop
        kept = self.kept
        if kind is not None:
            shop.splitters = kept.splitters
            shop.granted = kept.granted
            shop.past = kept.past
        self.kept = kept.outer


class Workshop:
    """Splitters under names, and wishes that hold after each change."""

    def __init__(self):
        # Neither of both is changed itself, so that what was before can be kept as it is.
        self.splitters = {}
        self.granted = ()
        self.past = []

    def __len__(self):
        return len(self.past)

    def __bool__(self):
        return True

    def __contains__(self, x):
        return is_name(x) and x in self.splitters

    @property
    def names(self):
        """The names, ascending."""
        return tuple(sorted(list(self.splitters)))

    @property
    def wishes(self):
        """The wishes, in the order in which they came."""
        return self.granted

    def put(self, name, splitter):
        """Put a splitter under a name, or in the place of the one that is there."""
        if not is_name(name):
            raise InvalidName(name)
        need_splitter(splitter)
        for index, wish in enumerate(self.granted):
            if wish[1] == name and not is_fulfilled(wish, splitter):
                raise Broken(index)
        self.change({**self.splitters, name: splitter}, self.granted)

    def drop(self, name):
        """Take the splitter under a name away."""
        self.need_known(name)
        for index, wish in enumerate(self.granted):
            if wish[1] == name:
                raise InUse(index)
        self.change({known: self.splitters[known] for known in self.splitters if known != name}, self.granted)

    def wish(self, wish):
        """Let a wish hold from now on."""
        if not is_wish(wish):
            raise InvalidWish(wish)
        self.need_known(wish[1])
        if not is_fulfilled(wish, self.splitters[wish[1]]):
            raise Broken(len(self.granted))
        self.change(self.splitters, (*self.granted, wish))

    def lift(self, index):
        """Take a wish away."""
        if not is_whole(index) or not 0 <= index < len(self.granted):
            raise InvalidIndex(index)
        self.change(self.splitters, self.granted[:index] + self.granted[index + 1:])

    def named(self, name):
        """The splitter under a name."""
        self.need_known(name)
        return self.splitters[name]

    def undo(self):
        """Take back the last change."""
        if len(self.past) == 0:
            raise NothingToUndo()
        self.splitters, self.granted = self.past.pop()

    def trial(self):
        """For a `with` statement: if its block ends with an exception, all is as it was when it was entered."""
        return Trial(self)

    def tried(self, action):
        """What the function returns, called with this workshop within a trial."""
        with self.trial() as shop:
            return action(shop)

    def need_known(self, name):
        """Raise UnknownName for what is no name here."""
        if name not in self:
            raise UnknownName(name)

    def change(self, splitters, granted):
        """Put these in the place of what was, which can be taken back."""
        self.past.append((self.splitters, self.granted))
        self.splitters, self.granted = splitters, granted
