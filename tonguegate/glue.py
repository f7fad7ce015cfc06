"""The keeper that keeps things in a store, with a form in the one tongue, the other one or each."""

from tonguegate.alike import alike
from tonguegate.changing import more_laid, put_laid, turned
from tonguegate.keepers import Keeper
from tonguegate.kinds import part_kind
from tonguegate.laid import lay, let_go, part_at, read_laid
from tonguegate.worths import with_more, with_part


class Version:
    """A worth that things share, laid in the store in one form or two."""

    def __init__(self, kind, single, hand, address):
        self.kind = kind
        # Whether one form counts in both tongues, as their layings are alike for the kind.
        self.single = single
        # By the hand that laid it, and so by its tongue, the address of each form.
        self.forms = {hand: address}
        # How many things have the version.
        self.users = 0

    def hand_for(self, side):
        """The hand whose form counts as the one in the side's tongue; None where there is no such form."""
        if self.single:
            return min(self.forms)
        return side if side in self.forms else None


class GlueKeeper(Keeper):
    """Keeps the worths of things in a store, by the layings of the tongues 0 and 1."""

    def __init__(self, store, layings):
        Keeper.__init__(self)
        self.store = store
        self.layings = layings

    def make(self, side, kind, worth):
        """Make a thing: its number."""
        version = self.new_version(side, kind, worth)
        version.users += 1
        thing = self.enter(kind, version)
        self.rows.append(("make", side, thing))
        return thing

    def share(self, thing):
        """Make a new thing of the same kind and worth: its number; NoThing."""
        kind = self.kind_of(thing)
        version = self.kept[thing]
        version.users += 1
        new = self.enter(kind, version)
        self.rows.append(("share", thing, new))
        return new

    def read(self, side, thing):
        """The worth of the thing; NoThing."""
        worth = self.part_in(self.ready(side, thing), side, ())
        self.rows.append(("read", side, thing))
        return worth

    def part(self, side, thing, path):
        """The worth of the thing's part at the path; NoThing, then NoPart."""
        worth = self.part_in(self.ready(side, thing), side, path)
        self.rows.append(("part", side, thing))
        return worth

    def put(self, side, thing, path, worth):
        """Make the thing's part at the path another worth; NoThing, then NoPart."""
        if path:
            self.put_within(side, thing, path, worth)
        else:
            self.renew(side, thing, worth)
        self.rows.append(("put", side, thing))

    def grow(self, side, thing, path, item):
        """Give the thing's row at the path one more item; NoThing, then NoPart and Full."""
        version = self.ready(side, thing)
        if version.users > 1:
            self.make_own(side, thing, with_more(version.kind, self.part_in(version, side, ()), path, item))
        else:
            hand = version.hand_for(side)
            more_laid(self.store, hand, self.layings[hand], version.kind, version.forms[hand], path, item)
            self.keep_alone(version, hand)
        self.rows.append(("grow", side, thing))

    def drop(self, thing):
        """Let the thing go; NoThing."""
        self.kind_of(thing)
        version = self.kept[thing]
        self.leave(thing)
        self.lose_user(version)
        self.rows.append(("drop", thing))

    def address(self, side, thing):
        """The address of the thing's form in the side's tongue, None where there is no such form; NoThing."""
        self.kind_of(thing)
        version = self.kept[thing]
        hand = version.hand_for(side)
        return None if hand is None else version.forms[hand]

    def new_version(self, side, kind, worth):
        """A version of the worth with one form, in the side's tongue, that no thing has yet."""
        address = lay(self.store, side, self.layings[side], kind, worth)
        return Version(kind, alike(self.layings[0], self.layings[1], kind), side, address)

    def ready(self, side, thing):
        """The thing's version, which then has a form in the side's tongue; NoThing."""
        kind = self.kind_of(thing)
        version = self.kept[thing]
        if version.hand_for(side) is None:
            other = 1 - side
            there = version.forms[other]
            here = turned(self.store, side, self.layings[other], self.layings[side], kind, there)
            version.forms[side] = here
            self.rows.append(("turn", side, thing))
        return version

    def part_in(self, version, side, path):
        """The worth of the part at the path, as the form in the side's tongue says; NoPart."""
        hand = version.hand_for(side)
        laying = self.layings[hand]
        at = part_at(self.store, laying, version.kind, version.forms[hand], path)
        return read_laid(self.store, laying, part_kind(version.kind, path), at)

    def put_within(self, side, thing, path, worth):
        """Make the thing's part at a path that is not empty another worth; NoThing, then NoPart."""
        version = self.ready(side, thing)
        if version.users > 1:
            self.make_own(side, thing, with_part(version.kind, self.part_in(version, side, ()), path, worth))
        else:
            hand = version.hand_for(side)
            put_laid(self.store, hand, self.layings[hand], version.kind, version.forms[hand], path, worth)
            self.keep_alone(version, hand)

    def make_own(self, side, thing, worth):
        """Give the thing, which shares its version, one of its own with its changed worth."""
        self.renew(side, thing, worth)
        self.rows.append(("split", side, thing))

    def renew(self, side, thing, worth):
        """Give the thing a new version, with one form, in the side's tongue; NoThing."""
        version = self.new_version(side, self.kind_of(thing), worth)
        version.users += 1
        self.lose_user(self.kept[thing])
        self.kept[thing] = version

    def lose_user(self, version):
        """Let go the forms of a version that no thing has any more, now that one less has it."""
        version.users -= 1
        if version.users == 0:
            for hand in sorted(version.forms):
                self.let_go_form(version, hand)

    def keep_alone(self, version, hand):
        """Let go the form that the other hand laid, if there is one: it does not say the changed worth."""
        other = 1 - hand
        if other in version.forms:
            self.let_go_form(version, other)

    def let_go_form(self, version, hand):
        """Let go the form that the hand laid."""
        let_go(self.store, hand, self.layings[hand], version.kind, version.forms[hand])
        del version.forms[hand]
