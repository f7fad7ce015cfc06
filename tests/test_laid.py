"""Things laid in the store [15], read, their parts found and let go [16]."""

import unittest

from laying import LaidCase, gapped
from samples import DOT, LABEL, NUM, PAGE, POINT, SHAPE, SHEET, TEXT, TRACK, snapshot
from stores import state, words_of
from things import INNER, MIXED, ROW, ROWS, SIZES, SWAPPED, TEXTS, WIDE, cases, chance_cases, paths
from tonguegate.errors import NoPart
from tonguegate.kinds import part_kind, size_of
from tonguegate.laid import lay, let_go, part_at, read_laid
from tonguegate.layings import all_layings
from tonguegate.pictures import picture, words_in
from tonguegate.store import Store
from tonguegate.worths import part_of


class Laying(LaidCase):

    def test_written_out(self):
        store = Store(100)
        self.assertEqual(lay(store, 0, ("low", "end", "array", "told"), ("num", 2), 65538), 1)
        self.assertEqual(lay(store, 1, ("high", "end", "array", "told"), ("num", 2), 65538), 3)
        self.assertEqual(words_of(store), {1: 2, 2: 1, 3: 1, 4: 2})
        self.assertEqual(store.blocks(), [(1, 2, 0), (3, 2, 1)])
        self.assertEqual(store.book(), [("take", 0, 1, 2), ("take", 1, 3, 2)])

    def test_a_text(self):
        for laying in all_layings():
            store = Store(5)
            address = lay(store, 1, laying, TEXT, "hey")
            block = store.look(address)
            self.assertEqual(sorted(store.blocks()), sorted([(address, 1, 1), (block, 4, 1)]))
            words = [store.look(block + place) for place in range(4)]
            self.assertEqual(words, [3, 104, 101, 121] if laying[1] == "count" else [104, 101, 121, 0])

    def test_a_chain_of_none_has_one_block(self):
        for laying in all_layings():
            store = Store(10)
            address = lay(store, 0, laying, ROW, ())
            self.assertEqual(len(store.blocks()), 1 if laying[2] == "chain" else 2)
            self.assertEqual(store.look(address) == 0, laying[2] == "chain")

    def test_as_the_picture(self):
        for kind, worth in cases() + chance_cases(15, 60):
            for laying in all_layings():
                for hand in (0, 1):
                    store, address, before = self.laid(laying, kind, worth, hand)
                    self.assert_stand(store, before, (hand, laying, kind, address, worth))
                    self.assert_least_places(4000, store.book())
                    taken = sum(many for begin, many, taker in store.blocks()) - sum(block[1] for block in before)
                    self.assertEqual(taken, words_in(picture(laying, kind, worth)))

    def test_just_as_many_words_as_it_needs(self):
        for laying in all_layings():
            store = Store(words_in(picture(laying, SHEET, PAGE)))
            address = lay(store, 0, laying, SHEET, PAGE)
            self.assert_stand(store, [], (0, laying, SHEET, address, PAGE))
            self.assertEqual(read_laid(store, laying, SHEET, address), PAGE)

    def test_two_things(self):
        for laying in all_layings():
            other = all_layings()[-1]
            store, address, before = self.laid(laying, SHEET, PAGE)
            kept = words_of(store)
            second = lay(store, 1, other, MIXED, (5, "two", (6,)))
            self.assert_stand(store, before, (0, laying, SHEET, address, PAGE), (1, other, MIXED, second, (5, "two", (6,))))
            self.assertLessEqual(kept.items(), words_of(store).items())

    def test_nothing_but_the_store_is_changed(self):
        for kind, worth in cases():
            before = snapshot((kind, worth))
            lay(Store(4000), 0, all_layings()[5], kind, worth)
            self.assertEqual((kind, worth), before)


class Reading(LaidCase):

    def test_read_back(self):
        for kind, worth in cases() + chance_cases(16, 60):
            for laying in all_layings():
                store, address, before = self.laid(laying, kind, worth)
                kept = state(store)
                self.assertEqual(read_laid(store, laying, kind, address), worth)
                self.assertEqual(state(store), kept)

    def test_parts_within_a_block(self):
        for kind, worth in cases() + chance_cases(17, 60):
            for laying in all_layings():
                store, address, before = self.laid(laying, kind, worth)
                kept = state(store)
                for path in paths(kind, worth):
                    inner = part_kind(kind, path)
                    at = part_at(store, laying, kind, address, path)
                    self.assertEqual(read_laid(store, laying, inner, at), part_of(kind, worth, path))
                    self.within(store, at, picture(laying, inner, part_of(kind, worth, path)))
                self.assertEqual(state(store), kept)

    def test_other_words_put_in(self):
        for laying in all_layings():
            store, address, before = self.laid(laying, ROW, (5, 6, 7))
            store.put(part_at(store, laying, ROW, address, (1,)), 65535)
            self.assertEqual(read_laid(store, laying, ROW, address), (5, -1, 7))
            store, address, before = self.laid(laying, TEXT, "abc")
            store.put(store.look(address) + 1, 126)
            self.assertEqual(read_laid(store, laying, TEXT, address), "~bc" if laying[1] == "count" else "a~c")

    def test_a_shorter_text(self):
        for laying in all_layings():
            store, address, before = self.laid(laying, TEXT, "abc")
            block = store.look(address)
            if laying[1] == "count":
                store.put(block, 2)
            else:
                store.put(block + 2, 0)
            self.assertEqual(read_laid(store, laying, TEXT, address), "ab")

    def test_a_shorter_row(self):
        for laying in all_layings():
            store, address, before = self.laid(laying, WIDE, (1, -2, 3))
            if laying[2] == "array":
                store.put(store.look(address), 1)
            else:
                store.put(store.look(address), 0)
            self.assertEqual(read_laid(store, laying, WIDE, address), (1,))

    def test_another_name_of_a_pick(self):
        kind = ("pick", (("b", NUM), ("a", ("num", 1)), ("c", SWAPPED)))
        for laying in all_layings():
            store, address, before = self.laid(laying, kind, ("b", 7))
            told = []
            for place in (0, 1, 2):
                store.put(address, place)
                told.append(read_laid(store, laying, kind, address))
            first = {"told": [("b", 7), ("a", 7)], "names": [("a", 7), ("b", 7)]}[laying[3]]
            self.assertEqual(told, first + [("c", {"told": (7, 0), "names": (0, 7)}[laying[3]])])

    def test_blocks_of_both_hands_put_by_hand(self):
        store = Store(60)
        whole = store.take(0, 40)
        tail = store.take(1, 5)
        for place, word in enumerate((2, 104, 105, 104, 105, 0)):
            store.put(whole + place, word)
        for at, word in ((whole + 10, whole), (whole + 11, whole + 3)):
            store.put(at, word)
        self.assertEqual(read_laid(store, ("low", "count", "array", "told"), TEXT, whole + 10), "hi")
        self.assertEqual(read_laid(store, ("low", "end", "array", "told"), TEXT, whole + 11), "hi")
        # A chain whose first block stands in one hand's block, and whose second one in the other's.
        for at, word in ((whole + 20, whole + 30), (whole + 30, tail + 2), (whole + 31, 8), (tail + 2, 0), (tail + 3, 9)):
            store.put(at, word)
        chain = ("low", "count", "chain", "told")
        self.assertEqual(read_laid(store, chain, ROW, whole + 20), (8, 9))
        self.assertEqual(part_at(store, chain, ROW, whole + 20, (1,)), tail + 3)

    def test_one_block_for_several_texts(self):
        store = Store(20)
        row = store.take(0, 4)
        text = store.take(1, 3)
        for at, word in ((row, row + 1), (row + 1, 2), (row + 2, text), (row + 3, text), (text, 104), (text + 1, 105)):
            store.put(at, word)
        self.assertEqual(read_laid(store, ("low", "end", "array", "told"), TEXTS, row), ("hi", "hi"))


class PartsFound(LaidCase):

    def test_the_empty_path(self):
        for kind, worth in cases():
            for laying in all_layings():
                store, address, before = self.laid(laying, kind, worth)
                self.assertEqual(part_at(store, laying, kind, address, ()), address)

    def test_fields_of_a_rec(self):
        for laying in all_layings():
            store, address, before = self.laid(laying, MIXED, (70000, "one", (3,)))
            offsets = {"told": {"b": 0, "ab": 2, "a": 3}, "names": {"a": 0, "ab": 1, "b": 2}}[laying[3]]
            for name, offset in offsets.items():
                self.assertEqual(part_at(store, laying, MIXED, address, (name,)), address + offset)

    def test_the_worth_of_a_pick(self):
        for laying in all_layings():
            for worth in (("c", "here"), ("b", 1), ("a", (1, 2))):
                store, address, before = self.laid(laying, SIZES, worth)
                self.assertEqual(part_at(store, laying, SIZES, address, (worth[0],)), address + 1)
            self.assertEqual(part_at(store, laying, SIZES, address, ("a", "y")), address + 2)

    def test_items_of_a_row(self):
        for laying in all_layings():
            store, address, before = self.laid(laying, WIDE, (7, 8, 9))
            block = store.look(address)
            found = [part_at(store, laying, WIDE, address, (number,)) for number in range(3)]
            if laying[2] == "array":
                self.assertEqual(found, [block + 1, block + 4, block + 7])
            else:
                second = store.look(block)
                self.assertEqual(found, [block + 1, second + 1, store.look(second) + 1])

    def test_within_a_part(self):
        for laying in all_layings():
            store, address, before = self.laid(laying, SHEET, PAGE)
            shapes = part_at(store, laying, SHEET, address, ("shapes",))
            whole = part_at(store, laying, SHEET, address, ("shapes", 2, "path", 1))
            self.assertEqual(part_at(store, laying, ("row", SHAPE), shapes, (2, "path", 1)), whole)

    def test_no_part(self):
        for laying in all_layings():
            store, address, before = self.laid(laying, SHEET, PAGE)
            for path in (
                ("none",), ("",), (0,), ("title", 0), ("title", "x"), ("shapes", "dot"), ("shapes", 3), ("shapes", -1),
                ("shapes", 60), ("shapes", 59), ("shapes", 10 ** 40), ("shapes", 0, "label"), ("shapes", 0, "none"),
                ("shapes", 0, 0), ("shapes", 0, "dot", "z"), ("shapes", 0, "dot", "x", "x"), ("shapes", 2, "path", 2),
                ("main", "dot"), ("main", "label"), ("main", "dot", "x"), ("main", 1), ("main", "path", 2),
                ("main", "path", -1), ("main", "path", 0, 0), ("main", "Path"), ("title", "title"),
            ):
                self.assert_refused_unchanged(store, NoPart, part_at, store, laying, SHEET, address, path)

    def test_items_beyond_the_last(self):
        for laying in all_layings():
            for many in (0, 1, 59, 60):
                store, address, before = self.laid(laying, ROW, (4,) * many)
                for number in (many, many + 1, 60, 61, -1, -many, 10 ** 40):
                    if number != 0 or many == 0:
                        self.assert_refused_unchanged(store, NoPart, part_at, store, laying, ROW, address, (number,))
                if many:
                    at = part_at(store, laying, ROW, address, (many - 1,))
                    self.assertEqual(store.look(at), 4)


class LettingGo(LaidCase):

    def test_none_of_its_blocks_stands(self):
        for kind, worth in cases() + chance_cases(18, 60):
            for laying in all_layings():
                for hand in (0, 1):
                    store, address, before = self.laid(laying, kind, worth, hand)
                    blocks = self.blocks_of(store, hand, laying, kind, address, worth)
                    done = len(store.book())
                    self.assertIsNone(let_go(store, hand, laying, kind, address))
                    self.assertEqual(store.blocks(), before)
                    given = store.book()[done:]
                    self.assertEqual(sorted(given), sorted(("give", hand, begin) for begin, many, taker in blocks))

    def test_another_thing_stays(self):
        for laying in all_layings():
            store, address, before = self.laid(laying, SHEET, PAGE)
            other = lay(store, 0, laying, SHEET, PAGE)
            let_go(store, 0, laying, SHEET, address)
            self.assertEqual(read_laid(store, laying, SHEET, other), PAGE)
            self.assert_stand(store, before, (0, laying, SHEET, other, PAGE))
            let_go(store, 0, laying, SHEET, other)
            self.assertEqual(store.blocks(), before)

    def test_a_pick_of_each_field(self):
        for laying in all_layings():
            for worth in (DOT, LABEL, TRACK):
                store, address, before = self.laid(laying, SHAPE, worth)
                let_go(store, 0, laying, SHAPE, address)
                self.assertEqual(store.blocks(), before)

    def test_laid_and_let_go_again(self):
        for laying in all_layings():
            store = gapped()
            before = words_of(store), store.blocks()
            for turn in range(3):
                for kind, worth in ((INNER, (("c", "z"), ("only", 9), (("b", 4),))), (ROWS, ((1,), ())), (POINT, (1, 2))):
                    address = lay(store, turn & 1, laying, kind, worth)
                    self.assertEqual(read_laid(store, laying, kind, address), worth)
                    self.assertEqual(store.look(address), words_of(store)[address])
                    let_go(store, turn & 1, laying, kind, address)
                self.assertEqual((words_of(store), store.blocks()), before)

    def test_the_greatest_rows(self):
        kind = ("row", TEXTS)
        worth = ((("a" * 60,) * 15),) * 19 + ((),) * 41
        for laying in all_layings():
            store = Store(60000)
            address = lay(store, 1, laying, kind, worth)
            self.assertEqual(read_laid(store, laying, kind, address), worth)
            self.assertEqual(size_of(kind), 1)
            let_go(store, 1, laying, kind, address)
            self.assertEqual(store.blocks(), [])


if __name__ == "__main__":
    unittest.main()
