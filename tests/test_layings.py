"""Layings [9]."""

import itertools
import unittest

from samples import Awkward, anything, nested, snapshot
from tonguegate.layings import all_layings, is_laying

ALL = [
    ("high", "count", "array", "names"), ("high", "count", "array", "told"),
    ("high", "count", "chain", "names"), ("high", "count", "chain", "told"),
    ("high", "end", "array", "names"), ("high", "end", "array", "told"),
    ("high", "end", "chain", "names"), ("high", "end", "chain", "told"),
    ("low", "count", "array", "names"), ("low", "count", "array", "told"),
    ("low", "count", "chain", "names"), ("low", "count", "chain", "told"),
    ("low", "end", "array", "names"), ("low", "end", "array", "told"),
    ("low", "end", "chain", "names"), ("low", "end", "chain", "told"),
]
WORDS = ("high", "low", "count", "end", "array", "chain", "names", "told")


class IsLaying(unittest.TestCase):

    def assert_none(self, thing):
        self.assertIs(is_laying(thing), False, repr(thing))

    def test_the_sixteen(self):
        for laying in ALL:
            self.assertIs(is_laying(laying), True, laying)

    def test_no_others_of_these_words(self):
        found = [words for words in itertools.product(WORDS, repeat=4) if is_laying(words)]
        self.assertEqual(sorted(found), ALL)

    def test_one_word_is_another(self):
        for laying in ALL:
            for place in range(4):
                for word in ("", "Low", "low ", "middle", "lowhigh", "l", None, True, 0, b"low", ("low",), ["low"], {},
                             Awkward(), laying[place].upper(), laying[place] + "s", laying[place][:-1]):
                    self.assert_none(laying[:place] + (word,) + laying[place + 1:])

    def test_one_part_more_or_less(self):
        for laying in ALL:
            for place in range(4):
                self.assert_none(laying[:place] + laying[place + 1:])
            for word in WORDS + (None, 0, ()):
                self.assert_none(laying + (word,))
                self.assert_none((word,) + laying)
            self.assert_none((laying,))
            self.assert_none(laying + laying)

    def test_a_list_in_the_place_of_a_tuple(self):
        for laying in ALL:
            self.assert_none(list(laying))
            self.assert_none([laying])
            self.assert_none(" ".join(laying))
            self.assert_none(dict.fromkeys(laying))

    def test_anything(self):
        for thing in anything() + ["abcd", (None,) * 4, (Awkward(),) * 4, ((),) * 4, nested(100)]:
            self.assert_none(thing)

    def test_nothing_is_changed(self):
        thing = ["low", ["end"], "chain", "told"]
        before = snapshot(thing)
        is_laying(thing)
        is_laying(tuple(thing))
        self.assertEqual(thing, before)


class AllLayings(unittest.TestCase):

    def test_all_sixteen_sorted(self):
        self.assertEqual(all_layings(), ALL)
        self.assertEqual(all_layings(), sorted(all_layings()))
        self.assertIsInstance(all_layings(), list)
        for laying in all_layings():
            self.assertIsInstance(laying, tuple)

    def test_the_list_is_the_askers_own(self):
        told = all_layings()
        told[0] = None
        told.clear()
        self.assertEqual(all_layings(), ALL)
        self.assertIsNot(all_layings(), all_layings())


if __name__ == "__main__":
    unittest.main()
