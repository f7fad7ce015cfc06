"""What a glue keeper has to tell and to have in its store [26], [27], [28], deed by deed."""

from keeping import KeeperModel
from laying import LaidCase
from tonguegate.alike import alike


class VersionModel:
    """A version: its forms by hand, the address None until it is looked at."""

    def __init__(self, single, hand):
        self.single = single
        self.forms = {hand: None}

    def hand(self, side):
        if self.single:
            return list(self.forms)[0]
        return side if side in self.forms else None


class GlueModel(KeeperModel):
    """The keeper's model with versions, and with turns and splits in its book."""

    def __init__(self, layings):
        super().__init__()
        self.layings = layings
        self.versions = {}

    def new_version(self, side, kind):
        return VersionModel(alike(*self.layings, kind), side)

    def ready(self, side, thing):
        version = self.versions[thing]
        if version.hand(side) is None:
            version.forms[side] = None
            self.rows.append(("turn", side, thing))

    def shared(self, thing):
        return list(self.versions.values()).count(self.versions[thing]) > 1

    def make(self, side, kind, worth):
        thing = super().make(side, kind, worth)
        self.versions[thing] = self.new_version(side, kind)
        return thing

    def share(self, thing):
        new = super().share(thing)
        self.versions[new] = self.versions[thing]
        return new

    def read(self, side, thing):
        self.ready(side, thing)
        return super().read(side, thing)

    def part(self, side, thing, path):
        self.ready(side, thing)
        return super().part(side, thing, path)

    def put(self, side, thing, path, worth):
        if path:
            self.ready(side, thing)
        super().put(side, thing, path, worth)
        row = self.rows.pop()
        if path:
            self.changed(side, thing)
        else:
            self.versions[thing] = self.new_version(side, self.things[thing][0])
        self.rows.append(row)

    def grow(self, side, thing, path, item):
        self.ready(side, thing)
        super().grow(side, thing, path, item)
        row = self.rows.pop()
        self.changed(side, thing)
        self.rows.append(row)

    def changed(self, side, thing):
        version = self.versions[thing]
        if self.shared(thing):
            self.versions[thing] = self.new_version(side, self.things[thing][0])
            self.rows.append(("split", side, thing))
        elif not version.single:
            version.forms.pop(1 - side, None)

    def drop(self, thing):
        super().drop(thing)
        del self.versions[thing]


class GlueCase(LaidCase):

    def assert_as_model(self, keeper, store, model):
        """The addresses are those of the model's forms, and in the store stand just the blocks of these."""
        forms = {}
        for thing, version in model.versions.items():
            for side in (0, 1):
                hand = version.hand(side)
                address = keeper.address(side, thing)
                self.assertEqual(address is None, hand is None)
                if hand is None:
                    continue
                if version.forms[hand] is None:
                    version.forms[hand] = address
                self.assertEqual(address, version.forms[hand])
                kind, worth = model.things[thing]
                forms[address] = (hand, model.layings[hand], kind, address, worth)
        self.assert_stand(store, [], *forms.values())
        self.assertEqual(keeper.book(), model.rows)

    def assert_few_turns(self, book):
        """Of each thing no more than one turn stands between two changes (puts and growings)."""
        turned = set()
        for row in book:
            if row[0] == "turn":
                self.assertNotIn(row[2], turned)
                turned.add(row[2])
            elif row[0] in ("put", "grow"):
                turned.discard(row[2])
