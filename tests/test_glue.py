"""The glue keeper [24] to [28]."""

import random
import unittest

from glueing import GlueCase, GlueModel
from keeping import KeeperModel, KeeperTests, plain_rows, some_deed
from refusals import RefusalCase
from samples import DOT, LABEL, NUM, PAGE, SHAPE, SHEET, TEXT, TRACK
from things import MIXED, ROW, TEXTS
from tonguegate.alike import alike
from tonguegate.errors import Full, GateError, NoPart, NoThing
from tonguegate.glue import GlueKeeper
from tonguegate.keepers import PlainKeeper
from tonguegate.laid import read_laid
from tonguegate.layings import all_layings
from tonguegate.store import Store

HERE = ("low", "count", "array", "told")
THERE = ("high", "end", "chain", "names")
UNLIKE = (HERE, THERE)
# Alike for all kinds, and alike for num 1 and for rows of it alone.
ALIKE = (HERE, HERE)
MIXED_PAIRS = (UNLIKE, UNLIKE[::-1], ALIKE, (THERE, THERE), (HERE, ("high",) + HERE[1:]), (HERE, HERE[:3] + ("names",)),
               (THERE, HERE[:1] + THERE[1:]), (("low", "end", "array", "told"), HERE), (("low", "count", "chain", "told"), HERE))


def all_pairs():
    return [(one, other) for one in all_layings() for other in all_layings()]


class Glue(KeeperTests, RefusalCase):
    """All that holds for every keeper."""

    def new_keepers(self):
        return [GlueKeeper(Store(60000), layings) for layings in MIXED_PAIRS]


class Deeds(GlueCase):
    """Deeds told to a glue keeper and to its model, the store looked at behind each."""

    def begin(self, layings=UNLIKE, words=5000):
        self.store = Store(words)
        self.keeper = GlueKeeper(self.store, layings)
        self.model = GlueModel(layings)

    def do(self, deed, *handed):
        """Do the deed, which is not refused."""
        expected = getattr(self.model, deed)(*handed)
        self.assertEqual(getattr(self.keeper, deed)(*handed), expected)
        self.assert_as_model(self.keeper, self.store, self.model)
        return expected

    def refuse(self, refusal, deed, *handed):
        """Do the deed, which is refused with this class."""
        with self.assertRaises(refusal):
            getattr(self.model, deed)(*handed)
        self.assert_refused(refusal, getattr(self.keeper, deed), *handed)
        self.assert_as_model(self.keeper, self.store, self.model)

    def addresses(self, thing):
        return (self.keeper.address(0, thing), self.keeper.address(1, thing))

    def rows(self, many):
        """The last so many rows of the book."""
        return self.keeper.book()[-many:]

    def test_made_in_the_sides_tongue_alone(self):
        for side in (0, 1):
            self.begin()
            self.do("make", side, SHEET, PAGE)
            self.assertIsNone(self.addresses(0)[1 - side])
            address = self.addresses(0)[side]
            self.assertEqual(read_laid(self.store, UNLIKE[side], SHEET, address), PAGE)
            self.assertEqual({hand for begin, many, hand in self.store.blocks()}, {side})
            self.assertEqual(self.keeper.book(), [("make", side, 0)])

    def test_read_by_the_side_that_has_the_form(self):
        for side in (0, 1):
            self.begin()
            self.do("make", side, TEXTS, ("a", "b"))
            deeds = self.store.book()
            for again in range(3):
                self.do("read", side, 0)
                self.do("part", side, 0, (1,))
            self.assertEqual(self.store.book(), deeds)
            self.assertEqual(self.keeper.book(), [("make", side, 0)] + [("read", side, 0), ("part", side, 0)] * 3)

    def test_read_by_the_other_side_turns_once(self):
        for side in (0, 1):
            for deed, handed in (("read", ()), ("part", ((0,),))):
                self.begin()
                self.do("make", side, TEXTS, ("a", "b"))
                first = self.addresses(0)[side]
                self.do(deed, 1 - side, 0, *handed)
                self.assertEqual(self.rows(2), [("turn", 1 - side, 0), (deed, 1 - side, 0)])
                self.assertEqual(self.addresses(0)[side], first)
                taken = self.store.book()
                for again in (0, 1, 0):
                    self.do("read", again, 0)
                    self.do("part", again, 0, (1,))
                self.assertEqual(self.store.book(), taken)
                self.assertEqual([row for row in self.keeper.book() if row[0] == "turn"], [("turn", 1 - side, 0)])

    def test_a_part_that_is_refused_behind_a_turn(self):
        for deed, handed in (("part", ((2,),)), ("part", (("a",),)), ("put", ((2,), "c")), ("put", (("a", 1), "c")),
                             ("grow", ((0,), "c"))):
            self.begin()
            self.do("make", 0, TEXTS, ("a", "b"))
            self.refuse(NoPart, deed, 1, 0, *handed)
            self.assertEqual(self.keeper.book(), [("make", 0, 0), ("turn", 1, 0)])
            self.assertNotIn(None, self.addresses(0))
            self.refuse(NoPart, deed, 1, 0, *handed)
            self.refuse(NoPart, deed, 0, 0, *handed)
            self.assertEqual(self.keeper.book(), [("make", 0, 0), ("turn", 1, 0)])

    def test_full_behind_a_turn(self):
        self.begin()
        self.do("make", 1, ROW, (3,) * 60)
        self.refuse(Full, "grow", 0, 0, (), 4)
        self.refuse(Full, "grow", 0, 0, (), 4)
        self.assertEqual(self.keeper.book(), [("make", 1, 0), ("turn", 0, 0)])
        self.do("share", 0)
        self.refuse(Full, "grow", 0, 1, (), 4)
        self.refuse(Full, "grow", 1, 1, (), 4)
        self.refuse(NoPart, "put", 1, 1, (60,), 4)
        self.assertEqual(self.rows(1), [("share", 0, 1)])

    def test_a_refusal_of_a_shared_thing_turns_and_does_not_split(self):
        self.begin()
        self.do("make", 0, TEXTS, ("a",))
        self.do("share", 0)
        self.refuse(NoPart, "put", 1, 1, (1,), "b")
        self.assertEqual(self.rows(1), [("turn", 1, 1)])
        self.assertEqual(self.addresses(0), self.addresses(1))

    def test_put_by_the_side_that_has_the_form(self):
        for side in (0, 1):
            self.begin()
            self.do("make", side, SHEET, PAGE)
            address = self.addresses(0)[side]
            self.do("put", side, 0, ("shapes", 1), TRACK)
            self.do("put", side, 0, ("main", "label"), "m")
            self.do("grow", side, 0, ("shapes",), DOT)
            self.assertEqual(self.addresses(0)[side], address)
            self.assertIsNone(self.addresses(0)[1 - side])
            self.assertEqual(self.keeper.book()[1:], [("put", side, 0), ("put", side, 0), ("grow", side, 0)])

    def test_put_by_the_other_side(self):
        for side in (0, 1):
            self.begin()
            self.do("make", side, SHEET, PAGE)
            self.do("put", 1 - side, 0, ("shapes", 1), TRACK)
            self.assertEqual(self.rows(2), [("turn", 1 - side, 0), ("put", 1 - side, 0)])
            self.assertIsNone(self.addresses(0)[side])
            self.do("grow", side, 0, ("shapes",), LABEL)
            self.assertEqual(self.rows(2), [("turn", side, 0), ("grow", side, 0)])
            self.assertIsNone(self.addresses(0)[1 - side])

    def test_a_change_lets_the_other_form_go(self):
        for side in (0, 1):
            self.begin()
            self.do("make", 0, TEXTS, ("a", "b"))
            self.do("read", 1, 0)
            address = self.addresses(0)[side]
            self.do("put", side, 0, (0,), "c")
            self.assertEqual(self.addresses(0)[side], address)
            self.assertIsNone(self.addresses(0)[1 - side])
            self.do("read", 1 - side, 0)
            self.assertEqual(self.rows(2), [("turn", 1 - side, 0), ("read", 1 - side, 0)])
            self.do("grow", 1 - side, 0, (), "d")
            self.assertIsNone(self.addresses(0)[side])

    def test_put_as_a_whole_needs_no_form(self):
        for maker in (0, 1):
            for side in (0, 1):
                self.begin()
                self.do("make", maker, TEXTS, ("a", "b"))
                self.do("put", side, 0, (), ("c",))
                self.assertEqual(self.keeper.book(), [("make", maker, 0), ("put", side, 0)])
                self.assertIsNone(self.addresses(0)[1 - side])
                self.do("read", 1 - side, 0)
                self.do("put", side, 0, (), ())
                self.assertIsNone(self.addresses(0)[1 - side])

    def test_put_as_a_whole_of_a_shared_thing_does_not_split(self):
        for side in (0, 1):
            self.begin()
            self.do("make", 0, TEXTS, ("a", "b"))
            self.do("share", 0)
            first = self.addresses(0)
            self.do("put", side, 1, (), ("c",))
            self.assertEqual(self.rows(2), [("share", 0, 1), ("put", side, 1)])
            self.assertEqual(self.addresses(0), first)
            self.assertIsNone(self.addresses(1)[1 - side])

    def test_a_shared_thing_changed_is_split(self):
        for side in (0, 1):
            for thing in (0, 1):
                self.begin()
                self.do("make", side, SHEET, PAGE)
                self.do("share", 0)
                self.assertEqual(self.addresses(0), self.addresses(1))
                first = self.addresses(0)
                self.do("put", side, thing, ("title",), "new")
                self.assertEqual(self.rows(2), [("split", side, thing), ("put", side, thing)])
                self.assertEqual(self.addresses(1 - thing), first)
                self.assertIsNone(self.addresses(thing)[1 - side])
                self.do("grow", side, 1 - thing, ("shapes",), DOT)
                self.assertEqual(self.rows(1), [("grow", side, 1 - thing)])
                self.assertEqual(self.addresses(1 - thing), first)

    def test_a_shared_thing_changed_by_the_other_side(self):
        self.begin()
        self.do("make", 0, SHEET, PAGE)
        self.do("share", 0)
        self.do("share", 1)
        self.do("grow", 1, 2, ("shapes",), DOT)
        self.assertEqual(self.rows(3), [("turn", 1, 2), ("split", 1, 2), ("grow", 1, 2)])
        # The turned form stays with the version that the others have.
        self.assertNotIn(None, self.addresses(0))
        self.do("read", 1, 0)
        self.assertEqual(self.rows(1), [("read", 1, 0)])
        self.do("put", 1, 0, ("title",), "x")
        self.assertEqual(self.rows(2), [("split", 1, 0), ("put", 1, 0)])
        self.do("put", 1, 1, ("title",), "y")
        self.assertEqual(self.rows(1), [("put", 1, 1)])
        self.assertIsNone(self.addresses(1)[0])

    def test_let_go(self):
        self.begin()
        self.do("make", 0, SHEET, PAGE)
        self.do("share", 0)
        self.do("read", 1, 1)
        self.do("drop", 0)
        self.assertNotIn(None, self.addresses(1))
        self.do("put", 0, 1, ("title",), "alone")
        self.assertEqual(self.rows(1), [("put", 0, 1)])
        self.do("read", 1, 1)
        self.do("drop", 1)
        self.assertEqual(self.store.blocks(), [])
        self.assertEqual(self.keeper.standing(), [])

    def test_layings_that_are_alike(self):
        for maker in (0, 1):
            self.begin(ALIKE)
            self.do("make", maker, SHEET, PAGE)
            self.assertEqual(self.addresses(0)[0], self.addresses(0)[1])
            address = self.addresses(0)
            for side in (0, 1):
                self.do("read", side, 0)
                self.do("put", side, 0, ("title",), f"by {side}")
                self.do("grow", side, 0, ("shapes",), LABEL)
                self.do("part", side, 0, ("shapes", 3))
                self.assertEqual({hand for begin, many, hand in self.store.blocks()}, {maker})
            self.assertEqual(self.addresses(0), address)
            self.assertNotIn("turn", [row[0] for row in self.keeper.book()])

    def test_alike_and_split_or_put_as_a_whole(self):
        for side in (0, 1):
            for path, part in ((("title",), "two"), ((), PAGE)):
                self.begin(ALIKE)
                self.do("make", 1 - side, SHEET, PAGE)
                self.do("share", 0)
                self.do("put", side, 1, path, part)
                self.assertEqual({hand for begin, many, hand in self.store.blocks()}, {0, 1})
                self.do("drop", 0)
                self.assertEqual({hand for begin, many, hand in self.store.blocks()}, {side})
                self.do("put", 1 - side, 1, ("title",), "three")
                self.assertEqual({hand for begin, many, hand in self.store.blocks()}, {side})
                self.do("put", 1 - side, 1, (), PAGE)
                self.assertEqual({hand for begin, many, hand in self.store.blocks()}, {1 - side})
                self.assertNotIn("turn", [row[0] for row in self.keeper.book()])

    def test_alike_for_some_kinds_alone(self):
        layings = (HERE, ("high",) + HERE[1:])
        self.begin(layings)
        for kind, worth, turns in ((NUM, 5, False), (ROW, (1, 2), False), (TEXT, "a", False), (("num", 2), 5, True),
                                   (MIXED, (1, "a", ()), True), (SHAPE, LABEL, True)):
            self.assertEqual(alike(*layings, kind), not turns)
            thing = self.do("make", 0, kind, worth)
            self.assertEqual(self.addresses(thing)[1] is None, turns)
            self.do("read", 1, thing)
            self.assertEqual(("turn", 1, thing) in self.keeper.book(), turns)

    def test_address_of_no_thing(self):
        self.begin()
        self.do("make", 0, NUM, 5)
        self.do("make", 0, NUM, 5)
        self.do("drop", 0)
        for side in (0, 1):
            for thing in (0, 2, -1, 1000, 10 ** 40):
                self.assert_refused(NoThing, self.keeper.address, side, thing)
        self.assertEqual(self.keeper.book(), self.model.rows)

    def test_asking_for_addresses_kinds_and_numbers_does_nothing(self):
        self.begin()
        self.do("make", 0, TEXT, "a")
        deeds = self.store.book()
        for side in (0, 1):
            self.keeper.address(side, 0)
            self.keeper.kind_of(0)
            self.keeper.standing()
            self.keeper.book()
        self.assertEqual(self.store.book(), deeds)
        self.assertEqual(self.keeper.book(), [("make", 0, 0)])

    def test_no_thing_goes_ahead_of_a_turn(self):
        self.begin()
        self.do("make", 0, TEXTS, ("a",))
        self.do("make", 0, TEXTS, ("b",))
        self.do("drop", 0)
        book, deeds = self.keeper.book(), self.store.book()
        for deed, handed in (("read", ()), ("part", ((5,),)), ("put", ((), ())), ("put", ((0,), "a")), ("grow", ((), "a"))):
            for thing in (0, 2, -1):
                self.assert_refused(NoThing, getattr(self.keeper, deed), 1, thing, *handed)
        self.assertEqual(self.keeper.book(), book)
        self.assertEqual(self.store.book(), deeds)

    def test_the_book_row_by_row(self):
        self.begin()
        self.do("make", 0, TEXTS, ("a",))
        self.do("make", 1, NUM, 7)
        self.do("share", 0)
        self.do("read", 1, 2)
        self.do("read", 1, 0)
        self.do("put", 1, 2, (0,), "b")
        self.do("read", 0, 1)
        self.do("read", 0, 2)
        self.refuse(NoPart, "put", 1, 0, (5,), "c")
        self.do("grow", 0, 0, (), "c")
        self.refuse(NoPart, "part", 1, 0, (2,))
        self.do("put", 1, 0, (), ())
        self.do("drop", 1)
        self.assertEqual(self.keeper.book(), [
            ("make", 0, 0), ("make", 1, 1), ("share", 0, 2), ("turn", 1, 2), ("read", 1, 2), ("read", 1, 0), ("split", 1, 2),
            ("put", 1, 2), ("read", 0, 1), ("turn", 0, 2), ("read", 0, 2), ("grow", 0, 0), ("turn", 1, 0), ("put", 1, 0),
            ("drop", 1),
        ])

    def test_told_lists_are_the_askers_own(self):
        self.begin()
        self.do("make", 0, TEXT, "a")
        self.do("read", 1, 0)
        book = self.keeper.book()
        book.clear()
        self.assertEqual(self.keeper.book(), [("make", 0, 0), ("turn", 1, 0), ("read", 1, 0)])

    def test_between_two_changes_no_more_than_one_turn(self):
        chance = random.Random(4)
        for layings in MIXED_PAIRS:
            self.begin(layings, 60000)
            for deed in range(200):
                self.step_by_chance(chance)
            self.assert_few_turns(self.keeper.book())

    def step_by_chance(self, chance):
        """One deed by chance; the store and the book as the model's."""
        deed, handed = some_deed(chance, self.model)
        try:
            expected = getattr(self.model, deed)(*handed)
        except GateError as error:
            self.assert_refused(type(error), getattr(self.keeper, deed), *handed)
        else:
            self.assertEqual(getattr(self.keeper, deed)(*handed), expected)
        self.assert_as_model(self.keeper, self.store, self.model)

    def test_deeds_by_chance_with_all_pairs(self):
        for seed, layings in enumerate(all_pairs()):
            chance = random.Random(seed)
            self.begin(layings, 60000)
            for deed in range(40):
                self.step_by_chance(chance)
            self.assert_least_places(60000, self.store.book())
            for thing in self.keeper.standing():
                self.do("drop", thing)
            self.assertEqual(self.store.blocks(), [])


class AsThePlainKeeper(RefusalCase):

    def told(self, keeper, deed, handed):
        """What the keeper tells, or the class of its refusal."""
        try:
            return getattr(keeper, deed)(*handed)
        except GateError as error:
            return type(error)

    def test_the_same_deeds(self):
        chance = random.Random(26)
        model = KeeperModel()
        plain = PlainKeeper()
        pairs = all_pairs()[::7]
        glued = [GlueKeeper(Store(60000), layings) for layings in pairs]
        for step in range(250):
            deed, handed = some_deed(chance, model)
            self.told(model, deed, handed)
            expected = self.told(plain, deed, handed)
            for keeper in glued:
                self.assertEqual(self.told(keeper, deed, handed), expected)
        for keeper in glued:
            self.assertEqual(plain_rows(keeper), plain.book())
            self.assertEqual(keeper.standing(), plain.standing())
            for thing in plain.standing():
                self.assertEqual(keeper.kind_of(thing), plain.kind_of(thing))
        self.assertNotEqual(glued[1].book(), plain.book())

    def test_the_same_from_both_sides(self):
        chance = random.Random(27)
        for layings in all_pairs()[::5]:
            keeper, model = GlueKeeper(Store(60000), layings), KeeperModel()
            for step in range(40):
                deed, handed = some_deed(chance, model)
                self.told(model, deed, handed)
                self.told(keeper, deed, handed)
                for thing, (kind, worth) in model.things.items():
                    self.assertEqual(keeper.read(0, thing), worth)
                    self.assertEqual(keeper.read(1, thing), worth)


if __name__ == "__main__":
    unittest.main()
