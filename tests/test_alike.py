"""Layings that are alike for a kind, and worths that tell them apart [12]."""

import random
import unittest

from samples import NUM, POINT, SHAPE, SHEET, TEXT, deep, snapshot
from things import DEEP, INNER, LONE, MIXED, ROW, ROWS, SIZES, SWAPPED, TEXTS, WIDE, kind_by_chance
from tonguegate.alike import alike, apart
from tonguegate.layings import all_layings
from tonguegate.pictures import picture
from tonguegate.worths import is_worth

HALVES, ENDS, CHAINS, ORDER = range(4)

BARE = ("pick", (("n", NUM),))
# By kind, the places in a laying at which another word makes another picture.
MATTERS = {
    NUM: (), ("num", 2): (HALVES,), ("num", 3): (HALVES,), ("num", 4): (HALVES,), TEXT: (ENDS,),
    ROW: (CHAINS,), WIDE: (HALVES, CHAINS), TEXTS: (ENDS, CHAINS), ROWS: (CHAINS,), deep(5): (ENDS, CHAINS),
    ("rec", (("a", NUM),)): (), ("rec", (("a", NUM), ("b", NUM))): (), ("rec", (("b", NUM), ("a", NUM))): (ORDER,),
    ("rec", (("a", NUM), ("ab", NUM))): (), ("rec", (("ab", NUM), ("a", NUM))): (ORDER,),
    ("rec", (("a", NUM), ("c", NUM), ("b", NUM))): (ORDER,), ("rec", (("a", TEXT), ("b", ("num", 2)))): (HALVES, ENDS),
    ("rec", (("b", ("num", 4)), ("a", NUM))): (HALVES, ORDER), ("rec", (("b", NUM), ("a", ("num", 4)))): (HALVES, ORDER),
    POINT: (HALVES,), SWAPPED: (ORDER,), MIXED: (HALVES, ENDS, CHAINS, ORDER),
    BARE: (), ("pick", (("b", NUM),)): (), ("pick", (("a", NUM), ("b", NUM))): (),
    ("pick", (("a", NUM), ("b", ("num", 2)))): (HALVES,), ("pick", (("b", NUM), ("a", NUM))): (ORDER,),
    ("pick", (("a", NUM), ("ab", NUM), ("b", TEXT))): (ENDS,), ("pick", (("ab", NUM), ("a", NUM))): (ORDER,),
    ("pick", (("a", NUM), ("d", NUM), ("c", NUM), ("e", NUM))): (ORDER,), LONE: (), SIZES: (HALVES, ENDS, ORDER),
    ("pick", (("a", NUM), ("b", SWAPPED))): (ORDER,), ("row", SWAPPED): (CHAINS, ORDER),
    ("rec", (("a", NUM), ("b", SWAPPED))): (ORDER,), ("rec", (("a", BARE), ("b", BARE))): (),
    # The first entry of a pick with one field is always 0: it stays where another one goes to its place.
    ("rec", (("b", BARE), ("a", BARE))): (ORDER,), ("rec", (("b", BARE), ("a", ("pick", (("m", BARE),))))): (ORDER,),
    ("rec", (("b", ("pick", (("m", BARE),))), ("a", BARE))): (ORDER,), ("rec", (("b", BARE), ("a", NUM))): (ORDER,),
    ("rec", (("b", NUM), ("a", BARE))): (ORDER,), ("rec", (("c", BARE), ("a", NUM), ("b", BARE))): (ORDER,),
    ("rec", (("b", TEXT), ("a", TEXT))): (ENDS, ORDER), ("rec", (("b", ROW), ("a", TEXT))): (ENDS, CHAINS, ORDER),
    SHAPE: (HALVES, ENDS, CHAINS), SHEET: (HALVES, ENDS, CHAINS, ORDER), INNER: (HALVES, ENDS, CHAINS, ORDER),
    DEEP: (HALVES, ENDS, CHAINS, ORDER),
}


def pairs():
    return [(one, other) for one in all_layings() for other in all_layings()]


def longest_row(kind, worth):
    """How many items the longest row in the worth has."""
    if kind[0] == "row":
        return max([len(worth)] + [longest_row(kind[1], item) for item in worth])
    if kind[0] == "rec":
        return max(longest_row(inner, part) for (name, inner), part in zip(kind[1], worth))
    if kind[0] == "pick":
        return longest_row(dict(kind[1])[worth[0]], worth[1])
    return 0


def plain_alike(one, other, kind):
    """Whether all worths out of a list that leaves out no sort have the same picture by both."""
    return all(picture(one, kind, worth) == picture(other, kind, worth) for worth in some_worths(kind))


def some_worths(kind):
    """Worths of the kind: of all parts two unlike ones at the least, each part changed while the others stay."""
    if kind[0] == "num":
        return [0, 1]
    if kind[0] == "text":
        return ["", "a"]
    if kind[0] == "row":
        return [()] + [(item,) for item in some_worths(kind[1])]
    if kind[0] == "pick":
        return [(name, worth) for name, inner in kind[1] for worth in some_worths(inner)]
    parts = [some_worths(inner) for name, inner in kind[1]]
    bare = tuple(worths[0] for worths in parts)
    return [bare[:at] + (worth,) + bare[at + 1:] for at, worths in enumerate(parts) for worth in worths]


class Alike(unittest.TestCase):

    def assert_told(self, one, other, kind, expected):
        """Both functions tell it, and the worth, if there is one, is as the point says."""
        told = alike(one, other, kind)
        self.assertIs(told, expected, (one, other, kind))
        worth = apart(one, other, kind)
        self.assertIs(worth is None, expected, (one, other, kind))
        if not expected:
            self.assertTrue(is_worth(kind, worth), (kind, worth))
            self.assertNotEqual(picture(one, kind, worth), picture(other, kind, worth), (one, other, kind, worth))
            self.assertLessEqual(longest_row(kind, worth), 1, worth)

    def test_what_matters_for_which_kind(self):
        for kind, places in MATTERS.items():
            for one, other in pairs():
                self.assert_told(one, other, kind, all(one[place] == other[place] for place in places))

    def test_the_same_laying(self):
        for laying in all_layings():
            for kind in MATTERS:
                self.assert_told(laying, laying, kind, True)

    def test_kinds_by_chance(self):
        chance = random.Random(12)
        for case in range(150):
            kind = kind_by_chance(chance, 4)
            for one, other in chance.sample(pairs(), 20):
                self.assert_told(one, other, kind, plain_alike(one, other, kind))

    def test_every_order_of_three_fields(self):
        kinds = (NUM, BARE, ("num", 3), ("pick", (("m", BARE),)))
        one, other = ("low", "end", "array", "told"), ("low", "end", "array", "names")
        for names in (("a", "b", "c"), ("a", "c", "b"), ("b", "a", "c"), ("b", "c", "a"), ("c", "a", "b"), ("c", "b", "a")):
            for first in kinds:
                for second in kinds:
                    for third in kinds:
                        for head in ("rec", "pick"):
                            kind = (head, tuple(zip(names, (first, second, third))))
                            self.assert_told(one, other, kind, names == ("a", "b", "c"))
                            self.assert_told(other, one, kind, names == ("a", "b", "c"))

    def test_the_greatest_kind(self):
        kind = NUM
        for level in range(4):
            kind = ("rec", tuple((name, kind) for name in "abcdef"))
        one, other = ("low", "end", "array", "told"), ("high", "count", "chain", "names")
        self.assert_told(one, other, kind, True)
        self.assert_told(one, other, ("rec", kind[1][:5] + (("f", ("num", 2)),)), False)

    def test_nothing_is_changed(self):
        for kind in MATTERS:
            before = snapshot(kind)
            for one, other in (pairs()[3], pairs()[77]):
                alike(one, other, kind)
                apart(one, other, kind)
            self.assertEqual(kind, before)


if __name__ == "__main__":
    unittest.main()
