"""Keepers of things: what all of them have, and the one that keeps bare worths."""

from tonguegate.errors import NoThing
from tonguegate.worths import part_of, with_more, with_part


class Keeper:
    """Numbers things as they are made, and writes the book of what was done."""

    def __init__(self):
        self.made = 0
        # By the number of each standing thing its kind, and what the keeper has of it.
        self.kinds = {}
        self.kept = {}
        self.rows = []

    def enter(self, kind, kept):
        """Give a new thing its number."""
        thing = self.made
        self.made += 1
        self.kinds[thing] = kind
        self.kept[thing] = kept
        return thing

    def leave(self, thing):
        """Let the thing, which stands, stand no more."""
        del self.kinds[thing]
        del self.kept[thing]

    def kind_of(self, thing):
        """The kind of the thing; NoThing where it does not stand."""
        if thing not in self.kinds:
            raise NoThing("no standing thing has this number")
        return self.kinds[thing]

    def standing(self):
        """The numbers of the standing things, rising."""
        return sorted(self.kinds)

    def book(self):
        """What was done, in order: a list of tuples."""
        return list(self.rows)


class PlainKeeper(Keeper):
    """Keeps the worth of each thing."""

    def make(self, side, kind, worth):
        """Make a thing: its number."""
        thing = self.enter(kind, worth)
        self.rows.append(("make", side, thing))
        return thing

    def share(self, thing):
        """Make a new thing of the same kind and worth: its number; NoThing."""
        kind = self.kind_of(thing)
        new = self.enter(kind, self.kept[thing])
        self.rows.append(("share", thing, new))
        return new

    def read(self, side, thing):
        """The worth of the thing; NoThing."""
        self.kind_of(thing)
        self.rows.append(("read", side, thing))
        return self.kept[thing]

    def part(self, side, thing, path):
        """The worth of the thing's part at the path; NoThing, then NoPart."""
        kind = self.kind_of(thing)
        worth = part_of(kind, self.kept[thing], path)
        self.rows.append(("part", side, thing))
        return worth

    def put(self, side, thing, path, worth):
        """Make the thing's part at the path another worth; NoThing, then NoPart."""
        kind = self.kind_of(thing)
        self.kept[thing] = with_part(kind, self.kept[thing], path, worth)
        self.rows.append(("put", side, thing))

    def grow(self, side, thing, path, item):
        """Give the thing's row at the path one more item; NoThing, then NoPart and Full."""
        kind = self.kind_of(thing)
        self.kept[thing] = with_more(kind, self.kept[thing], path, item)
        self.rows.append(("grow", side, thing))

    def drop(self, thing):
        """Let the thing go; NoThing."""
        self.kind_of(thing)
        self.leave(thing)
        self.rows.append(("drop", thing))
