"""Pictures [10], pictures read back and the words in them [11]."""

import itertools
import reprlib
import unittest

from refusals import RefusalCase
from samples import NUM, POINT, TEXT, Awkward, anything, nested, snapshot
from things import DEEP, LONE, MIXED, ROW, ROWS, SIZES, SWAPPED, TEXTS, WIDE, cases, chance_cases, halves
from tonguegate.errors import NoPicture
from tonguegate.kinds import size_of
from tonguegate.layings import all_layings
from tonguegate.pictures import of_picture, picture, words_in
from tonguegate.worths import is_worth

# Things that are no words, and tuples and lists that are no blocks either.
NO_WORDS = (-1, 65536, 10 ** 40, -10 ** 40, True, False, None, 0.0, 1.0, "", "0", b"", b"\x00", [], [0], {}, set(),
            (), (None,), (True,), ((),), Awkward())


def layings_with(*words):
    """The layings that have all these words."""
    return [laying for laying in all_layings() if set(words) <= set(laying)]


def exact(thing):
    """The picture with the class of each entry, so that 1 and True are not the same."""
    if isinstance(thing, tuple):
        return tuple(exact(entry) for entry in thing)
    return (type(thing), thing)


def deepest(thing):
    """How deep blocks stand within one another."""
    depth = -1
    level = [thing]
    while level:
        depth += 1
        level = [entry for block in level for entry in block if isinstance(entry, tuple)]
    return depth


class PictureCase(RefusalCase):

    def assert_picture(self, laying, kind, worth, expected):
        """The picture is just this one, and it is read back."""
        told = picture(laying, kind, worth)
        self.assertEqual(exact(told), exact(expected), (laying, kind, worth))
        self.assertEqual(len(told), size_of(kind))
        self.assertEqual(of_picture(laying, kind, told), worth)

    def assert_no_picture(self, laying, kind, thing):
        with self.subTest(laying=laying, kind=kind, thing=reprlib.repr(thing)):
            self.assert_refused(NoPicture, of_picture, laying, kind, thing)


class Numbers(PictureCase):

    def test_written_out(self):
        low = {
            (1, 0): (0,), (1, 1): (1,), (1, -1): (65535,), (1, 32767): (32767,), (1, -32768): (32768,),
            (2, 0): (0, 0), (2, 1): (1, 0), (2, -1): (65535, 65535), (2, 65536): (0, 1), (2, 70000): (4464, 1),
            (2, 2147483647): (65535, 32767), (2, -2147483648): (0, 32768), (2, -65536): (0, 65535),
            (3, 1): (1, 0, 0), (3, -1): (65535, 65535, 65535), (3, -65537): (65535, 65534, 65535),
            (3, 140737488355327): (65535, 65535, 32767), (3, -140737488355328): (0, 0, 32768),
            (4, 0): (0, 0, 0, 0), (4, 1): (1, 0, 0, 0), (4, -1): (65535, 65535, 65535, 65535),
            (4, 0x0001000200030004): (4, 3, 2, 1), (4, -2): (65534, 65535, 65535, 65535),
            (4, 9223372036854775807): (65535, 65535, 65535, 32767), (4, -9223372036854775808): (0, 0, 0, 32768),
        }
        for (width, number), words in low.items():
            for laying in layings_with("low"):
                self.assert_picture(laying, ("num", width), number, words)
            for laying in layings_with("high"):
                self.assert_picture(laying, ("num", width), number, words[::-1])

    def test_both_ends_of_each_width(self):
        for width, half in halves().items():
            for number in (-half, -half + 1, -1, 0, 1, half - 1):
                digits = number if number >= 0 else number + 65536 ** width
                words = tuple(digits // 65536 ** place - digits // 65536 ** (place + 1) * 65536 for place in range(width))
                for laying in all_layings():
                    expected = words if laying[0] == "low" else words[::-1]
                    self.assert_picture(laying, ("num", width), number, expected)

    def test_read_back_wrong(self):
        for laying in all_layings():
            for width in (1, 2, 3, 4):
                kind = ("num", width)
                for many in set(range(6)) - {width}:
                    self.assert_no_picture(laying, kind, (0,) * many)
                for place in range(width):
                    for bad in NO_WORDS + ((0,), (1, 2)):
                        self.assert_no_picture(laying, kind, (0,) * place + (bad,) + (0,) * (width - 1 - place))
                self.assert_no_picture(laying, kind, [0] * width)
                self.assert_no_picture(laying, kind, ((0,) * width,))
                self.assert_no_picture(laying, kind, 0)


class Texts(PictureCase):

    def test_written_out(self):
        for text, signs in (("", ()), ("a", (97,)), (" ", (32,)), ("~", (126,)), ("$&", (36, 38)), ("ab a", (97, 98, 32, 97)),
                            ("\"\\'", (34, 92, 39)), ("z" * 60, (122,) * 60)):
            for laying in layings_with("count"):
                self.assert_picture(laying, TEXT, text, ((len(signs),) + signs,))
            for laying in layings_with("end"):
                self.assert_picture(laying, TEXT, text, (signs + (0,),))

    def test_every_sign(self):
        for number in range(32, 127):
            if number != 37:
                for laying in all_layings():
                    block = (1, number) if laying[1] == "count" else (number, 0)
                    self.assert_picture(laying, TEXT, chr(number), (block,))

    def test_no_block(self):
        for laying in all_layings():
            for bad in NO_WORDS + (0, 1, 97, [0], [1, 97], [97, 0], "a"):
                self.assert_no_picture(laying, TEXT, (bad,))
                self.assert_no_picture(laying, TEXT, bad)
            for thing in ((), ((0,), (0,)), ((0,), 0), [(0,)], (((0,),),)):
                self.assert_no_picture(laying, TEXT, thing)

    def test_a_wrong_count(self):
        for laying in layings_with("count"):
            for many in (0, 1, 2, 59, 60):
                signs = (97,) * many
                self.assertEqual(of_picture(laying, TEXT, ((many,) + signs,)), "a" * many)
                for count in {0, many - 1, many + 1, 97, 65535, 65536} - {many}:
                    self.assert_no_picture(laying, TEXT, ((count,) + signs,))
            self.assert_no_picture(laying, TEXT, ((True, 97),))
            self.assert_no_picture(laying, TEXT, ((False,),))
            self.assert_no_picture(laying, TEXT, ((1.0, 97),))
            self.assert_no_picture(laying, TEXT, ((61,) + (97,) * 61,))
            self.assert_no_picture(laying, TEXT, ((97, 0),))
            self.assert_no_picture(laying, TEXT, ((1, 97, 0),))

    def test_a_wrong_end(self):
        for laying in layings_with("end"):
            for many in (1, 2, 59, 60):
                self.assertEqual(of_picture(laying, TEXT, ((97,) * many + (0,),)), "a" * many)
                self.assert_no_picture(laying, TEXT, ((97,) * many,))
                self.assert_no_picture(laying, TEXT, ((97,) * many + (0, 0),))
                self.assert_no_picture(laying, TEXT, ((0,) + (97,) * many,))
                self.assert_no_picture(laying, TEXT, ((97,) * many + (1,),))
                self.assert_no_picture(laying, TEXT, ((97,) * many + (False,),))
                self.assert_no_picture(laying, TEXT, ((97,) * many + (0.0,),))
            self.assert_no_picture(laying, TEXT, ((),))
            self.assert_no_picture(laying, TEXT, ((97,) * 61 + (0,),))
            self.assert_no_picture(laying, TEXT, ((1, 97),))
            self.assert_no_picture(laying, TEXT, ((97, 0, 97, 0),))

    def test_signs_that_no_text_has(self):
        for laying in all_layings():
            for bad in (0, 1, 31, 37, 127, 128, 255, 256, 65535, 65536, -1, 97.0, "a", True, (97,)) + NO_WORDS:
                for signs in ((bad,), (97, bad), (bad, 97), (97, bad, 97)):
                    block = (len(signs),) + signs if laying[1] == "count" else signs + (0,)
                    self.assert_no_picture(laying, TEXT, (block,))


class Arrays(PictureCase):

    def test_written_out(self):
        for laying in layings_with("array", "low", "end"):
            self.assert_picture(laying, ROW, (), ((0,),))
            self.assert_picture(laying, ROW, (5,), ((1, 5),))
            self.assert_picture(laying, ROW, (5, -1, 7), ((3, 5, 65535, 7),))
            self.assert_picture(laying, WIDE, (1, -2), ((2, 1, 0, 0, 65534, 65535, 65535),))
            self.assert_picture(laying, TEXTS, ("", "a"), ((2, (0,), (97, 0)),))
            self.assert_picture(laying, ROWS, ((), (1,), (2, 3)), ((3, (0,), (1, 1), (2, 2, 3)),))
            self.assert_picture(laying, ROW, tuple(range(60)), ((60,) + tuple(range(60)),))

    def test_a_wrong_count(self):
        for laying in layings_with("array"):
            for many in (0, 1, 2, 59, 60):
                for count in {0, many - 1, many + 1, 65535} - {many}:
                    self.assert_no_picture(laying, ROW, ((count,) + (1,) * many,))
                    self.assert_no_picture(laying, WIDE, ((count,) + (1,) * 3 * many,))
            self.assert_no_picture(laying, ROW, ((61,) + (1,) * 61,))
            self.assert_no_picture(laying, WIDE, ((1, 1),))
            self.assert_no_picture(laying, WIDE, ((1, 1, 1, 1, 1),))
            self.assert_no_picture(laying, ROW, ((True, 5),))
            self.assert_no_picture(laying, ROW, ((False,),))
            self.assert_no_picture(laying, ROW, ((1.0, 5),))

    def test_no_block(self):
        for laying in layings_with("array"):
            for bad in NO_WORDS + (0, 1, [0], [1, 5], (0, 5)):
                self.assert_no_picture(laying, ROW, (bad,))
            for thing in ((), ((0,), (0,)), ((0,), 0), [(0,)], (((0,),),)):
                self.assert_no_picture(laying, ROW, thing)

    def test_a_wrong_item(self):
        for laying in layings_with("array"):
            for bad in NO_WORDS + ((0,),):
                self.assert_no_picture(laying, ROW, ((2, 1, bad),))
                self.assert_no_picture(laying, ROW, ((2, bad, 1),))
            for bad in NO_WORDS + (0, [0]):
                self.assert_no_picture(laying, TEXTS, ((2, (0,), bad),))
                self.assert_no_picture(laying, ROWS, ((2, bad, (0,)),))


class Chains(PictureCase):

    def test_written_out(self):
        for laying in layings_with("chain", "low", "count"):
            self.assert_picture(laying, ROW, (), (0,))
            self.assert_picture(laying, ROW, (5,), ((0, 5),))
            self.assert_picture(laying, ROW, (5, -1, 7), ((((0, 7), 65535), 5),))
            self.assert_picture(laying, WIDE, (1, -2), (((0, 65534, 65535, 65535), 1, 0, 0),))
            self.assert_picture(laying, TEXTS, ("", "a"), (((0, (1, 97)), (0,)),))
            self.assert_picture(laying, ROWS, ((), (1,), (2, 3)), ((((0, ((0, 3), 2)), (0, 1)), 0),))

    def test_sixty_items(self):
        expected = 0
        for number in range(59, -1, -1):
            expected = (expected, number)
        for laying in layings_with("chain"):
            self.assert_picture(laying, ROW, tuple(range(60)), (expected,))
            self.assertEqual(deepest((expected,)), 60)
            self.assert_no_picture(laying, ROW, ((expected, 5),))

    def test_eighty_deep(self):
        worth = ((),) * 20 + ((1,) * 59,)
        for laying in layings_with("chain"):
            told = picture(laying, ROWS, worth)
            self.assertEqual(deepest(told), 80)
            self.assertEqual(of_picture(laying, ROWS, told), worth)
            self.assertEqual(words_in(told), 1 + 21 * 2 + 59 * 2)

    def test_a_wrong_end(self):
        for laying in layings_with("chain"):
            for bad in NO_WORDS + (1, 5, 65535, (0,), (0, 5, 0), [0, 5], (0, 0, 0)):
                self.assert_no_picture(laying, ROW, (bad,))
                self.assert_no_picture(laying, ROW, ((bad, 5),))
                self.assert_no_picture(laying, ROW, (((bad, 6), 5),))
            for bad in ((5, 0), ((6, 0), 5), (0, (6, 0))):
                self.assert_no_picture(laying, ROW, (bad,))
            for thing in ((), (0, 0), [0], ((0, 5), 0), [(0, 5)], 0, ((0, 5), (0, 5))):
                self.assert_no_picture(laying, ROW, thing)

    def test_a_wrong_item(self):
        for laying in layings_with("chain"):
            for bad in NO_WORDS + ((0,), (0, 5)):
                self.assert_no_picture(laying, ROW, ((0, bad),))
                self.assert_no_picture(laying, ROW, (((0, bad), 5),))
                self.assert_no_picture(laying, ROW, (((0, 5), bad),))
            for bad in NO_WORDS + (0, 1, [0]):
                self.assert_no_picture(laying, TEXTS, ((0, bad),))

    def test_a_thing_a_hundred_deep(self):
        for laying in all_layings():
            for kind in (ROW, TEXTS, ROWS, DEEP):
                self.assert_no_picture(laying, kind, nested(100))
            thing = 0
            for level in range(99):
                thing = (thing, 0)
            self.assert_no_picture(laying, ROW, (thing,))


class Records(PictureCase):

    def test_written_out(self):
        for laying in layings_with("told"):
            self.assert_picture(laying, SWAPPED, (1, 2), (1, 2))
        for laying in layings_with("names"):
            self.assert_picture(laying, SWAPPED, (1, 2), (2, 1))
        for laying in layings_with("low"):
            self.assert_picture(laying, POINT, (1, -2), (1, 65534, 65535))
        for laying in layings_with("high"):
            self.assert_picture(laying, POINT, (1, -2), (1, 65535, 65534))

    def test_all_sixteen(self):
        for laying in all_layings():
            number = {"low": (4464, 1), "high": (1, 4464)}[laying[0]]
            text = {"count": ((2, 104, 105),), "end": ((104, 105, 0),)}[laying[1]]
            row = {"array": ((2, 3, 4),), "chain": (((0, 4), 3),)}[laying[2]]
            expected = {"told": number + text + row, "names": row + text + number}[laying[3]]
            self.assert_picture(laying, MIXED, (70000, "hi", (3, 4)), expected)

    def test_a_beginning_goes_ahead(self):
        names = ("b", "ab", "aab", "abc", "aa", "a")
        kind = ("rec", tuple((name, NUM) for name in names))
        for laying in layings_with("told"):
            self.assert_picture(laying, kind, (1, 2, 3, 4, 5, 6), (1, 2, 3, 4, 5, 6))
        for laying in layings_with("names"):
            self.assert_picture(laying, kind, (1, 2, 3, 4, 5, 6), (6, 5, 3, 2, 4, 1))

    def test_kinds_do_not_count_in_the_order(self):
        kind = ("rec", (("b", NUM), ("c", ("pick", (("x", NUM),))), ("a", TEXT)))
        for laying in layings_with("names", "count"):
            self.assert_picture(laying, kind, (7, ("x", 8), "k"), ((1, 107), 7, 0, 8))

    def test_read_back_wrong(self):
        for laying in all_layings():
            for thing in ((), (1,), (1, 2, 3), (1, 2, 0), [1, 2], ((1, 2),), (1, True), (None, 2), (1, -1), (65536, 2)):
                self.assert_no_picture(laying, SWAPPED, thing)


class Picks(PictureCase):

    def test_written_out_by_told(self):
        for laying in layings_with("told", "low", "count"):
            self.assert_picture(laying, SIZES, ("c", "hi"), (0, (2, 104, 105), 0, 0, 0))
            self.assert_picture(laying, SIZES, ("b", -2), (1, 65534, 65535, 65535, 65535))
            self.assert_picture(laying, SIZES, ("a", (7, 70000)), (2, 7, 4464, 1, 0))
            self.assert_picture(laying, LONE, ("only", 9), (0, 9))

    def test_written_out_by_names(self):
        for laying in layings_with("names", "low", "count"):
            self.assert_picture(laying, SIZES, ("c", "hi"), (2, (2, 104, 105), 0, 0, 0))
            self.assert_picture(laying, SIZES, ("b", -2), (1, 65534, 65535, 65535, 65535))
            self.assert_picture(laying, SIZES, ("a", (7, 70000)), (0, 7, 4464, 1, 0))
            self.assert_picture(laying, LONE, ("only", 9), (0, 9))

    def test_a_beginning_goes_ahead(self):
        kind = ("pick", (("ab", NUM), ("b", NUM), ("a", NUM)))
        for laying in all_layings():
            places = {"told": (0, 1, 2), "names": (1, 2, 0)}[laying[3]]
            for name, place in zip(("ab", "b", "a"), places):
                self.assert_picture(laying, kind, (name, 5), (place, 5))

    def test_a_place_beyond_the_fields(self):
        for laying in all_layings():
            for place in (3, 4, 65535) + NO_WORDS + ((0,),):
                self.assert_no_picture(laying, SIZES, (place, 0, 0, 0, 0))
            for place in (1, 2, True, False):
                self.assert_no_picture(laying, LONE, (place, 0))

    def test_other_words_behind(self):
        for laying in layings_with("low"):
            text = {"count": (1, 97), "end": (97, 0)}[laying[1]]
            of_text = {"told": 0, "names": 2}[laying[3]]
            of_point = 2 - of_text
            self.assertEqual(of_picture(laying, SIZES, (of_text, text, 0, 0, 0)), ("c", "a"))
            self.assertEqual(of_picture(laying, SIZES, (of_point, 7, 1, 0, 0)), ("a", (7, 1)))
            for bad in (1, 65535, (0,)) + NO_WORDS:
                for behind in ((bad, 0, 0), (0, bad, 0), (0, 0, bad)):
                    self.assert_no_picture(laying, SIZES, (of_text, text) + behind)
                self.assert_no_picture(laying, SIZES, (of_point, 7, 1, 0, bad))
            for behind in ((), (0,), (0, 0), (0, 0, 0, 0)):
                self.assert_no_picture(laying, SIZES, (of_text, text) + behind)

    def test_the_picture_of_another_field(self):
        for laying in all_layings():
            of_text = {"told": 0, "names": 2}[laying[3]]
            self.assert_no_picture(laying, SIZES, (of_text, 5, 0, 0, 0))
            self.assert_no_picture(laying, SIZES, (1, (0,), 0, 0, 0))


class Whole(PictureCase):

    def test_read_back(self):
        for kind, worth in cases() + chance_cases(10, 300):
            for laying in all_layings():
                told = picture(laying, kind, worth)
                self.assertEqual(len(told), size_of(kind))
                self.assertEqual(exact(of_picture(laying, kind, told)), exact(worth))

    def broken(self, thing):
        """The picture, everywhere in it one entry exchanged, left out or added."""
        found = [thing[:-1], thing + (0,), thing + ((0,),), (0,) + thing, list(thing), (thing,), ()]
        for place, entry in enumerate(thing):
            others = [-1, 0, 1, 2, 31, 37, 97, 127, 65535, 65536, True, False, None, 1.0, "a", [], (), (0,), (1, 97)]
            if isinstance(entry, tuple):
                others += self.broken(entry)
            found += [thing[:place] + (other,) + thing[place + 1:] for other in others]
        return found

    def test_broken_anywhere(self):
        some = [(MIXED, (70000, "hi", (3, 4))), (SIZES, ("a", (1, -2))), (SIZES, ("c", "k")),
                (DEEP, (((("t", "u"), ("n", -4)), 2),)), (ROWS, ((), (1,)))]
        for kind, worth in some:
            for laying in all_layings():
                for thing in self.broken(picture(laying, kind, worth)):
                    self.assert_read_or_refused(laying, kind, thing)

    def assert_read_or_refused(self, laying, kind, thing):
        """It is the picture of the worth that is told, to the last entry, or it is refused."""
        try:
            told = of_picture(laying, kind, thing)
        except NoPicture:
            return
        self.assertTrue(is_worth(kind, told))
        self.assertEqual(exact(picture(laying, kind, told)), exact(thing))

    def test_all_small_things(self):
        kind = ("pick", (("b", TEXT), ("a", ROW)))
        texts = ["", "a", "aa", " "]
        rows = [(), (0,), (1,), (97,), (0, 0), (1, 97)]
        blocks = [(), (0,), (1,), (97,), (32,)]
        blocks += [pair for pair in itertools.product((0, 1, 32, 97, True), repeat=2)]
        blocks += [(2, 97, 97), (97, 97, 0), (2, 0, 0), (2, 1, 97), ((0, 0), 0), ((0, 97), 1), ((0, 1), 97), [0], [0, 0]]
        for laying in all_layings():
            good = [picture(laying, kind, ("b", text)) for text in texts]
            good += [picture(laying, kind, ("a", row)) for row in rows]
            good = [exact(one) for one in good]
            read = 0
            for thing in itertools.product((0, 1, 2, True), blocks + [0, 1, False]):
                if exact(thing) in good:
                    self.assertEqual(picture(laying, kind, of_picture(laying, kind, thing)), thing)
                    read += 1
                else:
                    self.assert_read_or_refused(laying, kind, thing)
            self.assertEqual(read, len(good))

    def test_anything(self):
        for laying in all_layings():
            for kind in (NUM, ("num", 2), TEXT, ROW, TEXTS, MIXED, SIZES, LONE, DEEP):
                for thing in anything():
                    self.assert_no_picture(laying, kind, thing)

    def test_pictures_of_other_layings(self):
        worth = (70000, "hi", (3, 4))
        for laying in all_layings():
            for other in all_layings():
                if laying[1:] != other[1:]:
                    self.assert_no_picture(laying, MIXED, picture(other, MIXED, worth))

    def test_nothing_is_changed(self):
        for kind, worth in cases():
            before = snapshot((kind, worth))
            told = picture(all_layings()[0], kind, worth)
            kept = snapshot(told)
            of_picture(all_layings()[0], kind, told)
            words_in(told)
            self.assertEqual((kind, worth, told), before + (kept,))

    def test_refused_things_stay_as_they_are(self):
        for thing in ([1, [2]], ([97, 0],), [(1, 97)], ((0, [5]),), ([0],)):
            before = snapshot(thing)
            for laying in all_layings():
                for kind in (NUM, SWAPPED, TEXT, ROW, LONE):
                    self.assert_no_picture(laying, kind, thing)
            self.assertEqual(thing, before)

    def test_numbers_too_long_to_show(self):
        for laying in all_layings():
            for number in (10 ** 5000, -10 ** 5000):
                for kind, thing in ((NUM, (number,)), (TEXT, ((number,),)), (ROW, ((number, 1),)), (LONE, (number, 1))):
                    self.assert_refused(NoPicture, of_picture, laying, kind, thing)

    def test_a_little_beyond_the_limits(self):
        for laying in all_layings():
            self.assertEqual(len(picture(laying, TEXT, "a" * 61)[0]), 62)
            self.assertEqual(words_in(picture(laying, ROW, (1,) * 61)), 63 if laying[2] == "array" else 123)
            self.assertEqual(of_picture(laying, ("num", 5), picture(laying, ("num", 5), -3)), -3)


class WordsIn(unittest.TestCase):

    def test_written_out(self):
        for thing, many in (((), 0), ((1,), 1), ((1, 2, 3), 3), (((0,),), 2), (((1, 97),), 3), ((0, (2, 1, 2), 0), 6),
                            (((0, ((0, 3), 2)),), 7), ((((0, 7), 65535), 5), 6), (((), ()), 2)):
            self.assertEqual(words_in(thing), many, thing)

    def test_of_pictures(self):
        for laying in all_layings():
            self.assertEqual(words_in(picture(laying, ("num", 3), -1)), 3)
            self.assertEqual(words_in(picture(laying, TEXT, "")), 2)
            self.assertEqual(words_in(picture(laying, TEXT, "a" * 60)), 62)
            array = laying[2] == "array"
            self.assertEqual(words_in(picture(laying, ROW, ())), 2 if array else 1)
            self.assertEqual(words_in(picture(laying, ROW, (1,) * 60)), 62 if array else 121)
            self.assertEqual(words_in(picture(laying, SIZES, ("c", "ab"))), 8)


if __name__ == "__main__":
    unittest.main()
