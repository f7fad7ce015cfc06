"""Things changed where they lie [17] and turned into another laying [18]."""

import random
import unittest

from laying import LaidCase
from samples import DOT, LABEL, NUM, PAGE, SHAPE, SHEET, TEXT, TRACK, snapshot
from stores import state, words_of
from things import (
    DEEP, INNER, LONE, MIXED, ROW, ROWS, SIZES, SWAPPED, TEXTS, WIDE, cases, chance_cases, numbers, paths,
    worth_by_chance,
)
from tonguegate.changing import more_laid, put_laid, turned
from tonguegate.errors import Full, NoPart
from tonguegate.kinds import part_kind, size_of
from tonguegate.laid import lay, let_go, part_at, read_laid
from tonguegate.layings import all_layings
from tonguegate.pictures import picture
from tonguegate.store import Store
from tonguegate.worths import is_worth, part_of, with_more, with_part

NO_PARTS = (
    ("none",), ("",), (0,), ("title", 0), ("title", "x"), ("shapes", "dot"), ("shapes", 3), ("shapes", -1),
    ("shapes", 60), ("shapes", 10 ** 40), ("shapes", 0, "none"), ("shapes", 0, 0), ("shapes", 0, "dot", "z"),
    ("shapes", 0, "dot", "x", "x"), ("shapes", 1, "dot", "x"), ("shapes", 3, "label"), ("shapes", 2, "path", 2),
    ("main", 1), ("main", "dot", "x"), ("main", "path", 2), ("main", "path", -1), ("main", "path", 0, 0), ("main", "Path"),
)


class ChangedCase(LaidCase):

    def two(self, laying, kind, worth, hand):
        """A store with the thing and with another one of the other hand, laid after it."""
        store, address, before = self.laid(laying, kind, worth, hand)
        other = (1 - hand, all_layings()[-1 - all_layings().index(laying)], MIXED, None, (5, "two", (6, 7)))
        at = lay(store, *other[:3], other[4])
        return store, address, before, other[:3] + (at, other[4])

    def words_outside(self, store, blocks, own):
        """The words of the store but for those in these blocks and at these own addresses."""
        inside = {at for address, many in blocks for at in range(address, address + many)} | set(own)
        return {at: word for at, word in words_of(store).items() if at not in inside}

    def assert_deeds(self, rows, hand, given, taken):
        """In the rows stand just these givings and takings, in any order."""
        expected = [("give", hand, address) for address, many in given]
        expected += [("take", hand, address, many) for address, many in taken]
        self.assertEqual(sorted(rows), sorted(expected))


class Putting(ChangedCase):

    def assert_put(self, laying, kind, worth, path, part, hand=0):
        """The part is put, and all that the point says of blocks and words holds."""
        expected = with_part(kind, worth, path, part)
        own = path[:-1] if path and part_kind(kind, path[:-1])[0] == "pick" else path
        inner = part_kind(kind, own)
        store, address, before, other = self.two(laying, kind, worth, hand)
        at = part_at(store, laying, kind, address, own)
        given = self.within(store, at, picture(laying, inner, part_of(kind, worth, own)))
        addresses = range(at, at + size_of(inner))
        outside = self.words_outside(store, given, addresses)
        stay = [block for block in store.blocks() if block[:2] not in given]
        done = len(store.book())
        self.assertIsNone(put_laid(store, hand, laying, kind, address, path, part))
        taken = self.within(store, at, picture(laying, inner, part_of(kind, expected, own)))
        self.assert_deeds(store.book()[done:], hand, given, taken)
        self.assertEqual(self.words_outside(store, taken, addresses), outside)
        self.assertLessEqual(set(stay), set(store.blocks()))
        self.assertEqual(read_laid(store, laying, kind, address), expected)
        self.assert_stand(store, before, (hand, laying, kind, address, expected), other)
        self.assert_least_places(4000, store.book())
        let_go(store, hand, laying, kind, address)
        self.assert_stand(store, before, other)

    def test_written_out(self):
        store = Store(100)
        laying = ("low", "count", "array", "told")
        address = lay(store, 1, laying, MIXED, (1, "ab", (3,)))
        text = store.look(address + 2)
        row = store.look(address + 3)
        put_laid(store, 1, laying, MIXED, address, ("b",), -2)
        self.assertEqual([store.look(address), store.look(address + 1)], [65534, 65535])
        put_laid(store, 1, laying, MIXED, address, ("a", 0), 9)
        self.assertEqual([store.look(row), store.look(row + 1)], [1, 9])
        self.assertEqual(len(store.book()), 3)
        put_laid(store, 1, laying, MIXED, address, ("ab",), "xyz")
        self.assertEqual(store.look(address + 3), row)
        self.assertEqual(sorted(store.book()[3:])[0], ("give", 1, text))
        self.assertEqual(sorted(store.book()[3:])[1], ("take", 1, store.look(address + 2), 4))
        self.assertEqual(read_laid(store, laying, MIXED, address), (-2, "xyz", (9,)))

    def test_every_part_of_every_case(self):
        chance = random.Random(17)
        for kind, worth in cases() + chance_cases(19, 40):
            for laying in all_layings():
                for path in paths(kind, worth):
                    inner = part_kind(kind, path)
                    self.assert_put(laying, kind, worth, path, worth_by_chance(chance, inner), chance.randrange(2))

    def test_a_part_that_is_as_the_old_one(self):
        for kind, worth in cases():
            for laying in all_layings():
                for path in paths(kind, worth):
                    self.assert_put(laying, kind, worth, path, part_of(kind, worth, path))

    def test_numbers_of_each_width(self):
        for kind, number in numbers():
            for laying in all_layings():
                self.assert_put(laying, kind, 0, (), number)
                self.assert_put(laying, ("row", kind), (0, 0, 0), (1,), number)

    def test_texts_and_rows_of_all_lengths(self):
        kind = ("rec", (("t", TEXT), ("r", TEXTS)))
        for laying in all_layings():
            for old in (0, 1, 59, 60):
                for new in (0, 1, 59, 60):
                    worth = ("a" * old, ("b",) * old)
                    self.assert_put(laying, kind, worth, ("t",), "c" * new)
                    self.assert_put(laying, kind, worth, ("r",), ("d",) * new)
                    self.assert_put(laying, kind, worth, (), ("c" * new, ("d",) * new), 1)

    def test_into_a_pick_by_its_own_name(self):
        for laying in all_layings():
            self.assert_put(laying, SIZES, ("c", "here"), ("c",), "there")
            self.assert_put(laying, SIZES, ("b", 1), ("b",), -1)
            self.assert_put(laying, SIZES, ("a", (1, 2)), ("a",), (3, 4))
            self.assert_put(laying, SIZES, ("a", (1, 2)), ("a", "y"), -70000)
            self.assert_put(laying, SHEET, PAGE, ("main", "path"), (1,) * 60)
            self.assert_put(laying, LONE, ("only", 1), ("only",), 2)

    def test_into_a_pick_by_another_name(self):
        worths = (("c", "here"), ("b", -1), ("a", (1, 2)))
        for laying in all_layings():
            for old in worths:
                for name, part in worths:
                    for hand in (0, 1):
                        self.assert_put(laying, SIZES, old, (name,), part, hand)
                        self.assert_put(laying, ("row", SIZES), (old, old), (1, name), part, hand)
            for old in (DOT, LABEL, TRACK):
                for name, part in (DOT, LABEL, TRACK):
                    self.assert_put(laying, SHEET, ("", (old,), old), ("main", name), part)
                    self.assert_put(laying, SHEET, ("", (old,), old), ("shapes", 0, name), part)

    def test_the_empty_path(self):
        for laying in all_layings():
            self.assert_put(laying, SHEET, PAGE, (), ("", (), LABEL))
            self.assert_put(laying, SIZES, ("c", "here"), (), ("b", 7))
            self.assert_put(laying, ROW, (1, 2), (), ())
            self.assert_put(laying, ROW, (), (), (1, 2))

    def test_no_part(self):
        for laying in all_layings():
            store, address, before = self.laid(laying, SHEET, PAGE)
            for path in NO_PARTS:
                for part in (1, "a", (), DOT):
                    handed = (store, 0, laying, SHEET, address, path, part)
                    self.assert_refused_unchanged(store, NoPart, put_laid, *handed)
            self.assertEqual(read_laid(store, laying, SHEET, address), PAGE)

    def test_refused_just_where_the_worth_refuses(self):
        for laying in all_layings():
            for kind, worth, path in ((TEXTS, ("a",), (1,)), (TEXTS, (), (0,)), (ROWS, ((1,), ()), (1, 0)), (NUM, 1, (0,)),
                                      (TEXT, "a", (0,)), (LONE, ("only", 1), ("other",)), (SWAPPED, (1, 2), ("z",)),
                                      (ROW, (1,) * 60, (60,))):
                store, address, before = self.laid(laying, kind, worth)
                self.assert_refused(NoPart, with_part, kind, worth, path, 1)
                self.assert_refused_unchanged(store, NoPart, put_laid, store, 0, laying, kind, address, path, 1)

    def test_the_last_one_within_a_pick_that_has_another_name(self):
        kind = ("pick", (("a", ("pick", (("x", NUM), ("y", TEXT)))), ("b", NUM)))
        for laying in all_layings():
            store, address, before = self.laid(laying, kind, ("b", 1))
            self.assert_refused_unchanged(store, NoPart, put_laid, store, 0, laying, kind, address, ("a", "x"), 1)
            self.assert_put(laying, kind, ("a", ("x", 3)), ("a", "y"), "text")
            self.assert_put(laying, kind, ("b", 1), ("a",), ("y", "text"))

    def test_many_deeds_on_one_thing(self):
        chance = random.Random(18)
        for laying in all_layings():
            for kind in (SHEET, INNER, DEEP, ROWS):
                worth = worth_by_chance(chance, kind)
                store, address, before = self.laid(laying, kind, worth)
                for deed in range(15):
                    path = chance.choice(paths(kind, worth))
                    part = worth_by_chance(chance, part_kind(kind, path))
                    put_laid(store, 0, laying, kind, address, path, part)
                    worth = with_part(kind, worth, path, part)
                    self.assert_stand(store, before, (0, laying, kind, address, worth))
                    self.assertEqual(read_laid(store, laying, kind, address), worth)


class Growing(ChangedCase):

    def assert_more(self, laying, kind, worth, path, item, hand=0):
        """The row has one more item, and all that the point says of blocks and words holds."""
        expected = with_more(kind, worth, path, item)
        inner = part_kind(kind, path)[1]
        store, address, before, other = self.two(laying, kind, worth, hand)
        at = part_at(store, laying, kind, address, path)
        many = len(part_of(kind, worth, path))
        old = [part_at(store, laying, kind, address, path + (number,)) for number in range(many)]
        items = [[store.look(begin + place) for place in range(size_of(inner))] for begin in old]
        own = at if laying[2] == "array" or not many else old[-1] - 1
        given = [(store.look(at), 1 + many * size_of(inner))] if laying[2] == "array" else []
        outside = self.words_outside(store, given, [own])
        stay = [block for block in store.blocks() if block[:2] not in given]
        done = len(store.book())
        self.assertIsNone(more_laid(store, hand, laying, kind, address, path, item))
        new = part_at(store, laying, kind, address, path + (many,))
        taken = [(store.look(own), 1 + size_of(inner) * (many + 1 if laying[2] == "array" else 1))]
        taken += self.within(store, new, picture(laying, inner, item))
        self.assert_deeds(store.book()[done:], hand, given, taken)
        self.assertEqual(self.words_outside(store, taken, [own]), outside)
        self.assertLessEqual(set(stay), set(store.blocks()))
        self.assert_items_stay(store, laying, kind, address, path, old, items)
        self.assertEqual(read_laid(store, laying, kind, address), expected)
        self.assert_stand(store, before, (hand, laying, kind, address, expected), other)
        self.assert_least_places(4000, store.book())
        let_go(store, hand, laying, kind, address)
        self.assert_stand(store, before, other)

    def assert_items_stay(self, store, laying, kind, address, path, old, items):
        """The words of the old items are as they were, in a chain where they were."""
        inner = part_kind(kind, path)[1]
        for number, words in enumerate(items):
            begin = part_at(store, laying, kind, address, path + (number,))
            self.assertEqual([store.look(begin + place) for place in range(size_of(inner))], words)
            if laying[2] == "chain":
                self.assertEqual(begin, old[number])

    def test_written_out(self):
        store = Store(100)
        laying = ("low", "count", "chain", "told")
        address = lay(store, 0, laying, ROW, ())
        more_laid(store, 0, laying, ROW, address, (), 7)
        first = store.look(address)
        self.assertEqual([store.look(first), store.look(first + 1)], [0, 7])
        more_laid(store, 0, laying, ROW, address, (), 8)
        second = store.look(first)
        self.assertEqual([store.look(second), store.look(second + 1)], [0, 8])
        self.assertEqual(store.blocks(), [(address, 1, 0), (first, 2, 0), (second, 2, 0)])
        self.assertEqual([row[0] for row in store.book()], ["take"] * 3)

    def test_rows_of_all_lengths(self):
        for laying in all_layings():
            for many in (0, 1, 2, 58, 59):
                for hand in (0, 1):
                    self.assert_more(laying, ROW, (3,) * many, (), -1, hand)
                    self.assert_more(laying, WIDE, (3,) * many, (), -1, hand)
                    self.assert_more(laying, TEXTS, ("a",) * many, (), "bcd", hand)
                self.assert_more(laying, ROWS, ((1, 2),) * (many // 3), (), (4, 5, 6))
                self.assert_more(laying, ("row", SIZES), (("c", "a"), ("b", 1)) * (many // 2), (), ("c", "xy"))

    def test_rows_within(self):
        for laying in all_layings():
            self.assert_more(laying, SHEET, PAGE, ("shapes",), LABEL)
            self.assert_more(laying, SHEET, PAGE, ("shapes", 2, "path"), 9)
            self.assert_more(laying, SHEET, PAGE, ("main", "path"), 9)
            self.assert_more(laying, ROWS, ((1,), (), (2,)), (1,), 9)
            self.assert_more(laying, MIXED, (1, "a", ()), ("a",), 9)
            self.assert_more(laying, ("rec", (("r", TEXTS), ("q", TEXTS))), (("a",), ("b",)), ("q",), "")

    def test_every_row_of_every_case(self):
        chance = random.Random(19)
        for kind, worth in cases() + chance_cases(20, 60):
            for path in paths(kind, worth):
                row = part_kind(kind, path)
                if row[0] == "row" and len(part_of(kind, worth, path)) < 60:
                    for laying in all_layings():
                        self.assert_more(laying, kind, worth, path, worth_by_chance(chance, row[1]), chance.randrange(2))

    def test_from_none_to_sixty(self):
        for laying in all_layings():
            store, address, before = self.laid(laying, TEXTS, ())
            worth = ()
            for number in range(60):
                more_laid(store, 0, laying, TEXTS, address, (), "a" * number)
                worth += ("a" * number,)
                self.assertEqual(read_laid(store, laying, TEXTS, address), worth)
            self.assert_stand(store, before, (0, laying, TEXTS, address, worth))
            handed = (store, 0, laying, TEXTS, address, (), "b")
            self.assert_refused_unchanged(store, Full, more_laid, *handed)
            let_go(store, 0, laying, TEXTS, address)
            self.assertEqual(store.blocks(), before)

    def test_full(self):
        for laying in all_layings():
            for kind, worth, path, item in (
                (ROW, (1,) * 60, (), 2), (ROWS, ((), (1,) * 60), (1,), 2), (ROWS, ((),) * 60, (), ()),
                (MIXED, (1, "", (5,) * 60), ("a",), 6), (SHAPE, ("path", (1,) * 60), ("path",), 2),
            ):
                store, address, before = self.laid(laying, kind, worth)
                self.assert_refused_unchanged(store, Full, more_laid, store, 0, laying, kind, address, path, item)
                self.assertEqual(read_laid(store, laying, kind, address), worth)

    def test_no_part(self):
        for laying in all_layings():
            store, address, before = self.laid(laying, SHEET, PAGE)
            no_rows = ((), ("title",), ("main",), ("shapes", 0), ("shapes", 0, "dot"), ("shapes", 0, "dot", "x"),
                       ("shapes", 1, "label"), ("main", "path", 0), ("shapes", 0, "path"), ("main", "label"))
            for path in NO_PARTS + no_rows:
                for item in (1, DOT):
                    handed = (store, 0, laying, SHEET, address, path, item)
                    self.assert_refused_unchanged(store, NoPart, more_laid, *handed)

    def test_no_part_goes_ahead_of_full(self):
        for laying in all_layings():
            for kind, worth, path in ((ROW, (1,) * 60, (0,)), (ROW, (1,) * 60, (60,)), (TEXTS, ("a" * 60,) * 60, (0,)),
                                      (SHAPE, ("path", (1,) * 60), ("label",)), (SHAPE, ("path", (1,) * 60), ())):
                store, address, before = self.laid(laying, kind, worth)
                self.assert_refused_unchanged(store, NoPart, more_laid, store, 0, laying, kind, address, path, 1)


class Turning(LaidCase):

    def assert_turned(self, one, other, kind, worth, hand, turner):
        store, address, before = self.laid(one, kind, worth, hand)
        kept = words_of(store)
        old = state(store)[1]
        done = len(store.book())
        told = turned(store, turner, one, other, kind, address)
        self.assertNotEqual(told, address)
        self.assertEqual(read_laid(store, other, kind, told), worth)
        self.assertEqual(read_laid(store, one, kind, address), worth)
        self.assertLessEqual(kept.items(), words_of(store).items())
        self.assert_stand(store, old, (turner, other, kind, told, worth))
        self.assertEqual({row[:2] for row in store.book()[done:]}, {("take", turner)})
        let_go(store, turner, other, kind, told)
        self.assert_stand(store, before, (hand, one, kind, address, worth))

    def test_each_into_each(self):
        for one in all_layings():
            for other in all_layings():
                for kind, worth in ((SHEET, PAGE), (INNER, (("a", (1, -2)), ("only", 9), (("b", 4), ("c", "k"))))):
                    self.assert_turned(one, other, kind, worth, 0, 1)

    def test_every_case(self):
        layings = all_layings()
        for kind, worth in cases() + chance_cases(21, 40):
            for place, one in enumerate(layings):
                self.assert_turned(one, one, kind, worth, place & 1, place >> 1 & 1)
                self.assert_turned(one, layings[-1 - place], kind, worth, place >> 1 & 1, place & 1)

    def test_the_new_thing_can_be_changed_alone(self):
        for one in all_layings():
            for other in all_layings():
                store, address, before = self.laid(one, SHEET, PAGE)
                told = turned(store, 1, one, other, SHEET, address)
                more_laid(store, 1, other, SHEET, told, ("shapes",), DOT)
                put_laid(store, 0, one, SHEET, address, ("title",), "new")
                changed = with_more(SHEET, PAGE, ("shapes",), DOT)
                new = with_part(SHEET, PAGE, ("title",), "new")
                self.assert_stand(store, before, (0, one, SHEET, address, new), (1, other, SHEET, told, changed))


class NothingElse(LaidCase):

    def test_nothing_but_the_store_is_changed(self):
        laying = all_layings()[2]
        handed = (SHEET, PAGE, ("shapes", 2, "path"), (7, 8), ("main", "path"))
        before = snapshot(handed)
        store, address, stood = self.laid(laying, SHEET, PAGE)
        put_laid(store, 0, laying, SHEET, address, handed[2], handed[3])
        more_laid(store, 0, laying, SHEET, address, handed[4], 5)
        turned(store, 0, laying, laying, SHEET, address)
        self.assertEqual(handed, before)

    def test_the_chance_worths_are_worths(self):
        for kind, worth in cases() + chance_cases(15, 60):
            self.assertTrue(is_worth(kind, worth), (kind, worth))


if __name__ == "__main__":
    unittest.main()
