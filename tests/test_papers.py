"""Papers [19] and their crossings [21]."""

import unittest

from samples import NUM, POINT, SHAPE, SHEET, TEXT, Awkward, anything, deep, nested, snapshot
from things import DEEP, LONE, MIXED, ROW, SIZES, SWAPPED
from tonguegate.alike import alike
from tonguegate.layings import all_layings
from tonguegate.papers import crossing, is_paper
from tonguegate.pictures import picture
from tonguegate.worths import is_worth

PLACE = ("x", "copy", NUM)
PAPER = ("draw", 0, (("shape", "give", SHAPE), ("where", "lend", POINT), ("log", "lease", ROW), PLACE), TEXT)
NO_NAMES = ("", "abcdefghi", "A", "aB", "a1", "a_b", "a b", " a", "a\n", "a-", "{", "`", b"a", None, 0, True, ("a",),
            ["a"], Awkward())


def with_place(place):
    return ("door", 1, (("a", "copy", TEXT), place, ("b", "lend", NUM)), None)


class IsPaper(unittest.TestCase):

    def assert_paper(self, thing):
        self.assertIs(is_paper(thing), True, repr(thing))

    def assert_none(self, thing):
        self.assertIs(is_paper(thing), False, repr(thing))

    def test_ordinary_papers(self):
        self.assert_paper(PAPER)
        self.assert_paper(("a", 0, (), None))
        self.assert_paper(("abcdefgh", 1, (PLACE,), NUM))
        self.assert_paper(("z", 1, (PLACE, ("y", "copy", NUM)), deep(5)))

    def test_the_name(self):
        for name in ("a", "z", "door", "abcdefgh", "zzzzzzzz"):
            self.assert_paper((name,) + PAPER[1:])
        for name in NO_NAMES:
            self.assert_none((name,) + PAPER[1:])

    def test_the_side(self):
        for side in (0, 1):
            self.assert_paper(("door", side) + PAPER[2:])
        for side in (2, -1, 3, 10 ** 40, True, False, None, 0.0, 1.0, "0", "", b"", (), (0,), [0], [], {}, Awkward()):
            self.assert_none(("door", side) + PAPER[2:])

    def test_each_way(self):
        for way in ("copy", "give", "lend", "lease"):
            self.assert_paper(with_place(("x", way, NUM)))
        for way in ("", "Copy", "copy ", "cop", "copylend", "take", "leased", None, 0, True, b"copy", ("copy",), ["copy"],
                    {}, Awkward()):
            self.assert_none(with_place(("x", way, NUM)))

    def test_the_names_of_places(self):
        for name in ("c", "ab", "abcdefgh"):
            self.assert_paper(with_place((name, "copy", NUM)))
        for name in NO_NAMES:
            self.assert_none(with_place((name, "copy", NUM)))

    def test_no_name_twice(self):
        for name in ("a", "b"):
            self.assert_none(with_place((name, "copy", TEXT)))
            self.assert_none(with_place((name, "lease", SHAPE)))
        self.assert_none(("door", 0, (PLACE, PLACE), None))
        self.assert_paper(("x", 0, (PLACE,), None))
        self.assert_paper(with_place(("door", "copy", NUM)))

    def test_the_kinds_of_places(self):
        for kind in (NUM, TEXT, POINT, SHAPE, SHEET, deep(5)):
            self.assert_paper(with_place(("x", "copy", kind)))
        for kind in (deep(6), ("num", 0), ("num", 5), ("rec", ()), "num", "", 1, None, ["num", 1], (), ("row", "text")):
            self.assert_none(with_place(("x", "copy", kind)))
        for kind in anything():
            self.assert_none(with_place(("x", "copy", kind)))

    def test_the_result(self):
        for result in (None, NUM, TEXT, POINT, SHAPE, SHEET, deep(5)):
            self.assert_paper(("door", 0, (PLACE,), result))
        for result in (deep(6), ("num", 0), "none", "", 0, False, True, (), [], ("none",), (None,), ["text"]):
            self.assert_none(("door", 0, (PLACE,), result))
        for result in anything():
            if result is not None:
                self.assert_none(("door", 0, (PLACE,), result))

    def test_places_that_are_none(self):
        for places in (None, 0, "", "ab", [], [PLACE], {}, PLACE, (None,), ((),), ("x",), (list(PLACE),), ([],), (PLACE, None),
                       (PLACE, 1), (Awkward(),), Awkward(), (PLACE + (None,),), (PLACE[:2],), (PLACE[1:],), ((PLACE,),)):
            self.assert_none(("door", 0, places, None))
        for place in anything():
            self.assert_none(with_place(place))

    def test_many_places(self):
        letters = "abcdefghijklmnopqrst"
        places = tuple((one + other, "lend", TEXT) for one in letters for other in letters[:10])
        self.assertEqual(len(places), 200)
        self.assert_paper(("door", 0, places, None))
        self.assert_none(("door", 0, places[:-1] + places[:1], None))

    def test_a_part_more_or_less(self):
        for place in range(4):
            self.assert_none(PAPER[:place] + PAPER[place + 1:])
        for more in (None, 0, NUM, ()):
            self.assert_none(PAPER + (more,))
        self.assert_none((PAPER,))
        self.assert_none(())

    def test_lists_in_the_place_of_tuples(self):
        self.assert_none(list(PAPER))
        self.assert_none(("door", 0, [], None))
        self.assert_none(("door", 0, list(PAPER[2]), None))
        self.assert_none(("door", 0, (list(PLACE),), None))
        self.assert_none(("door", 0, (("x", "copy", list(NUM)),), None))

    def test_anything(self):
        for thing in anything() + ["door", "a" * 4, (Awkward(),) * 4, (None,) * 4, ((),) * 4, nested(100), NUM, SHAPE]:
            self.assert_none(thing)

    def test_nothing_is_changed(self):
        thing = ["door", 0, [list(PLACE)], ["text"]]
        before = snapshot(thing)
        is_paper(thing)
        is_paper(tuple(thing))
        self.assertEqual(thing, before)


class Crossing(unittest.TestCase):

    def assert_crossing(self, layings, paper):
        told = crossing(layings, paper)
        self.assertIsInstance(told, list)
        self.assertEqual([row[:2] for row in told], [place[:2] for place in paper[2]])
        for row, (name, way, kind) in zip(told, paper[2]):
            self.assertIsInstance(row, tuple)
            self.assertEqual(len(row), 3)
            self.assertEqual(row[2] is None, alike(layings[0], layings[1], kind))
            if row[2] is not None:
                self.assertTrue(is_worth(kind, row[2]))
                self.assertNotEqual(picture(layings[0], kind, row[2]), picture(layings[1], kind, row[2]))

    def test_all_pairs(self):
        kinds = (NUM, ("num", 2), TEXT, ROW, POINT, SWAPPED, MIXED, SHAPE, SIZES, LONE, DEEP)
        ways = ("copy", "give", "lend", "lease")
        places = tuple(("p" + "abcdefghijk"[at], ways[at & 3], kind) for at, kind in enumerate(kinds))
        for one in all_layings():
            for other in all_layings():
                self.assert_crossing((one, other), ("door", 0, places, None))
                self.assert_crossing((one, other), PAPER)

    def test_alike_and_apart(self):
        paper = ("door", 1, (("b", "give", NUM), ("a", "lease", TEXT), ("c", "copy", ("num", 2))), NUM)
        one = ("low", "end", "array", "told")
        self.assertEqual(crossing((one, one), paper), [("b", "give", None), ("a", "lease", None), ("c", "copy", None)])
        told = crossing((one, ("high", "end", "chain", "names")), paper)
        self.assertEqual(told[:2], [("b", "give", None), ("a", "lease", None)])
        self.assertIsInstance(told[2][2], int)
        told = crossing((one, ("low", "count", "array", "told")), paper)
        self.assertEqual([row[2] is None for row in told], [True, False, True])

    def test_no_places(self):
        for laying in all_layings():
            self.assertEqual(crossing((laying, all_layings()[0]), ("door", 0, (), NUM)), [])

    def test_the_list_is_the_askers_own(self):
        layings = (all_layings()[0], all_layings()[-1])
        before = snapshot((layings, PAPER))
        told = crossing(layings, PAPER)
        kept = list(told)
        told[0] = None
        told.clear()
        self.assertEqual(crossing(layings, PAPER), kept)
        self.assertEqual((layings, PAPER), before)


if __name__ == "__main__":
    unittest.main()
