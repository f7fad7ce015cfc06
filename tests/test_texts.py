"""Writings of kinds and papers, and texts read back [20]."""

import random
import unittest

from refusals import RefusalCase
from samples import NUM, POINT, SHAPE, SHEET, TEXT, deep
from things import DEEP, INNER, MIXED, kind_by_chance
from tonguegate.errors import NoText
from tonguegate.kinds import is_kind
from tonguegate.papers import is_paper
from tonguegate.texts import read_kind, read_paper, show_kind, show_paper

LETTERS = "abcdefghijklmnopqrst"
SIX = ("rec", tuple((name, NUM) for name in "abcdef"))
WAYS = ("copy", "give", "lend", "lease")

KINDS = (
    (("num", 1), "num 1"),
    (("num", 2), "num 2"),
    (("num", 3), "num 3"),
    (("num", 4), "num 4"),
    (TEXT, "text"),
    (("row", TEXT), "row text"),
    (("row", ("row", ("num", 4))), "row row num 4"),
    (("rec", (("a", TEXT),)), "rec (a text)"),
    (("rec", (("x", NUM), ("y", ("num", 2)))), "rec (x num 1, y num 2)"),
    (("pick", (("only", NUM),)), "pick (only num 1)"),
    (("pick", (("dot", POINT), ("path", ("row", NUM)))), "pick (dot rec (x num 1, y num 2), path row num 1)"),
    (SIX, "rec (a num 1, b num 1, c num 1, d num 1, e num 1, f num 1)"),
    (("row", ("rec", (("b", ("row", TEXT)), ("a", TEXT)))), "row rec (b row text, a text)"),
    # Names that are words of writings themselves.
    (("rec", (("num", NUM), ("text", TEXT), ("row", ("row", TEXT)))), "rec (num num 1, text text, row row text)"),
    (("pick", (("rec", ("rec", (("pick", TEXT),))), ("none", TEXT))), "pick (rec rec (pick text), none text)"),
    (("rec", (("abcdefgh", TEXT), ("zzzzzzzz", TEXT))), "rec (abcdefgh text, zzzzzzzz text)"),
    (deep(5), "row row row row text"),
    (("row", ("rec", (("a", ("pick", (("b", ("row", NUM)),))),))), "row rec (a pick (b row num 1))"),
)

PAPERS = (
    (("a", 0, (), None), "door a 0 () none"),
    (("abcdefgh", 1, (), NUM), "door abcdefgh 1 () num 1"),
    (("send", 1, (("size", "copy", NUM),), None), "door send 1 (size copy num 1) none"),
    (("draw", 0, (("a", "give", TEXT), ("b", "lend", ("row", TEXT)), ("c", "lease", POINT)), ("row", POINT)),
     "door draw 0 (a give text, b lend row text, c lease rec (x num 1, y num 2)) row rec (x num 1, y num 2)"),
    (("door", 1, (("door", "copy", TEXT), ("none", "lend", TEXT), ("copy", "copy", TEXT)), deep(5)),
     "door door 1 (door copy text, none lend text, copy copy text) row row row row text"),
)

KIND = "row rec (a num 1, b pick (c text, d rec (e num 2)))"
PAPER = "door send 1 (a copy num 1, b lend rec (c text)) row text"
SIGNS = " \n\t\r\0\x0b\x0c\x1f\x7f(),[]{}<>;:.-_+=*/\\'\"`~!@#$^&|?0123456789AZ"


def many_places(many):
    return tuple((one + other, WAYS[at & 3], NUM) for at, (one, other) in
                 enumerate([(one, other) for one in LETTERS for other in LETTERS][:many]))


class Shown(unittest.TestCase):

    def test_each_form_of_a_kind(self):
        for kind, text in KINDS:
            self.assertEqual(show_kind(kind), text)

    def test_each_form_of_a_paper(self):
        for paper, text in PAPERS:
            self.assertEqual(show_paper(paper), text)

    def test_beyond_the_limits(self):
        self.assertEqual(show_kind(deep(6)), "row row row row row text")
        self.assertEqual(show_kind(("num", 5)), "num 5")
        seven = ("pick", tuple((name, TEXT) for name in "abcdefg"))
        self.assertEqual(show_kind(seven), "pick (a text, b text, c text, d text, e text, f text, g text)")

    def test_two_hundred_places(self):
        shown = ", ".join(f"{name} {way} num 1" for name, way, kind in many_places(200))
        self.assertEqual(show_paper(("door", 0, many_places(200), None)), f"door door 0 ({shown}) none")


class ReadBack(unittest.TestCase):

    def assert_kind_back(self, kind):
        self.assertTrue(is_kind(kind))
        self.assertEqual(read_kind(show_kind(kind)), kind)

    def assert_paper_back(self, paper):
        self.assertTrue(is_paper(paper))
        self.assertEqual(read_paper(show_paper(paper)), paper)

    def test_each_form_of_a_kind(self):
        for kind, text in KINDS:
            self.assertEqual(read_kind(text), kind)
            self.assertTrue(is_kind(read_kind(text)))

    def test_each_form_of_a_paper(self):
        for paper, text in PAPERS:
            self.assertEqual(read_paper(text), paper)
            self.assertTrue(is_paper(read_paper(text)))

    def test_depths(self):
        for depth in range(1, 6):
            self.assert_kind_back(deep(depth))
        for head in ("rec", "pick"):
            kind = NUM
            for depth in range(4):
                kind = (head, (("a", kind), ("b", TEXT)))
                self.assert_kind_back(kind)

    def test_one_to_six_fields(self):
        for head in ("rec", "pick"):
            for many in range(1, 7):
                self.assert_kind_back((head, tuple((name, SHAPE) for name in "fedcba"[:many])))

    def test_many_kinds(self):
        for kind in (POINT, SHAPE, SHEET, MIXED, INNER, DEEP):
            self.assert_kind_back(kind)
        chance = random.Random(20)
        for case in range(300):
            self.assert_kind_back(kind_by_chance(chance, 5))

    def test_a_kind_of_the_most_fields(self):
        kind = TEXT
        for level in range(4):
            kind = ("rec", tuple((name * 8, kind) for name in "abcdef"))
        self.assert_kind_back(kind)

    def test_many_papers(self):
        chance = random.Random(21)
        for many in list(range(12)) + [199, 200]:
            places = tuple((name, way, kind_by_chance(chance, 5)) for name, way, kind in many_places(many))
            for side in (0, 1):
                self.assert_paper_back(("send", side, places, None))
                self.assert_paper_back(("z", side, places, kind_by_chance(chance, 5)))

    def test_what_is_read_is_of_whole_numbers_and_tuples(self):
        self.assertIs(type(read_kind("num 1")[1]), int)
        paper = read_paper("door a 1 () none")
        self.assertIs(type(paper[1]), int)
        self.assertIsInstance(paper[2], tuple)
        self.assertIsNone(paper[3])


class Refused(RefusalCase):

    def assert_no_kind(self, text):
        self.assert_refused(NoText, read_kind, text)

    def assert_no_paper(self, text):
        self.assert_refused(NoText, read_paper, text)

    def assert_neither(self, text):
        self.assert_no_kind(text)
        self.assert_no_paper(text)

    def test_the_empty_text_and_lone_signs(self):
        self.assert_neither("")
        for number in range(128):
            self.assert_neither(bytes([number]).decode("ascii"))

    def test_each_beginning_and_each_end(self):
        for at in range(len(KIND)):
            self.assert_no_kind(KIND[:at])
        for at in range(1, len(KIND)):
            if at != len("row "):
                self.assert_no_kind(KIND[at:])
        for at in range(len(PAPER) - len(" row text")):
            self.assert_no_paper(PAPER[:at])
        for at in range(1, len(PAPER)):
            self.assert_no_paper(PAPER[at:])

    def test_a_paper_without_its_result(self):
        for text in ("door a 0 ()", "door a 0 () ", "door a 0 () row", "door a 0 () row ", "door a 0 () non", "door a 0 none"):
            self.assert_no_paper(text)

    def test_a_kind_is_no_paper_and_a_paper_no_kind(self):
        for kind, text in KINDS:
            self.assert_no_paper(text)
        for paper, text in PAPERS:
            self.assert_no_kind(text)
        self.assert_neither("none")

    def test_a_blank_more(self):
        for text, refused in ((KIND, self.assert_no_kind), (PAPER, self.assert_no_paper)):
            for at in range(len(text) + 1):
                refused(text[:at] + " " + text[at:])

    def test_a_blank_less(self):
        for text, refused in ((KIND, self.assert_no_kind), (PAPER, self.assert_no_paper)):
            for at in range(len(text)):
                if text[at] == " ":
                    refused(text[:at] + text[at + 1:])

    def test_a_blank_in_another_place(self):
        for text in ("rec( a text)", "rec (a text ,b text)", "rec (a text, b text )", "rec ( a text)", "row  text", "ro wtext",
                     "num1 ", "rec(a text)", "rec (a text,b text)", "pick (a text , b text)", " text", "text ", "num 1 "):
            self.assert_no_kind(text)
        for text in ("door a 0() none", "door a 0 ()none", "door a 0 ( ) none", "door a0 () none", "doora 0 () none",
                     "door a 0 (b copy text )none", "door a 0 (b copy text) none ", " door a 0 () none", "door  a 0 () none"):
            self.assert_no_paper(text)

    def test_other_signs_in_the_place_of_blanks(self):
        for text, refused in ((KIND, self.assert_no_kind), (PAPER, self.assert_no_paper)):
            for at in range(len(text)):
                if text[at] == " ":
                    for sign in "\n\t\r\0_,.":
                        refused(text[:at] + sign + text[at + 1:])

    def test_a_sign_more(self):
        for text, refused in ((KIND, self.assert_no_kind), (PAPER, self.assert_no_paper)):
            for at in range(len(text) + 1):
                for sign in SIGNS:
                    refused(text[:at] + sign + text[at:])

    def test_a_bracket_or_comma_less(self):
        for text, refused in ((KIND, self.assert_no_kind), (PAPER, self.assert_no_paper)):
            for at in range(len(text)):
                if text[at] in "(),":
                    refused(text[:at] + text[at + 1:])

    def test_brackets_and_commas(self):
        for text in ("rec a text", "rec ((a text))", "rec (a (text))", "(text)", "rec (a text))", "rec (a text", "rec ()",
                     "pick ()", "rec", "pick", "rec (", "rec )", "rec (a text,)", "rec (a text, )", "rec (, a text)",
                     "rec (a text,, b text)", "rec (a text, , b text)", "rec (a text b text)", "rec (a, text)", "rec (a)",
                     "rec (text)", "rec ( text)", "rec (a )", "row (text)", "num (1)", "row text, text", "text, text",
                     "rec [a text]", "rec (a text) (b text)", "row", "row ", "num", "num "):
            self.assert_no_kind(text)
        for text in ("door a 0 none", "door a 0 ( none", "door a 0 ) none", "door a 0 (()) none", "door a 0 () (none)",
                     "door a 0 (b copy) none", "door a 0 (b text) none", "door a 0 (copy text) none",
                     "door a 0 (b copy text,) none", "door a 0 (b copy text, ) none", "door a 0 (, b copy text) none",
                     "door a 0 (b copy text c copy text) none", "door a 0 () none none", "door a 0 () none, none",
                     "door a 0 () text text", "door a 0 () ()", "door a () none", "door 0 () none", "a 0 () none"):
            self.assert_no_paper(text)

    def test_names_that_are_none(self):
        for name in ("", "A", "aB", "a1", "1", "0", "a_b", "a-b", "abcdefghi", "a" * 100, "a b", "{", "`", "a.", "(", ","):
            self.assert_no_kind(f"rec ({name} text)")
            self.assert_no_kind(f"pick (c text, {name} text)")
            self.assert_no_paper(f"door {name} 0 () none")
            self.assert_no_paper(f"door a 0 ({name} copy text) none")
            self.assert_no_paper(f"door a 0 (c copy text, {name} copy text) none")

    def test_a_name_twice(self):
        self.assert_no_kind("rec (a text, a text)")
        self.assert_no_kind("pick (a text, b num 1, a num 2)")
        self.assert_no_kind("row rec (b rec (a text, a text))")
        self.assert_no_paper("door a 0 (b copy text, b copy text) none")
        self.assert_no_paper("door a 0 (b copy text, c copy text, b lend num 1) none")
        self.assert_no_paper("door a 0 (b copy rec (c text, c text)) none")
        self.assert_no_paper("door a 0 () rec (c text, c text)")

    def test_figures(self):
        for figure in ("0", "5", "6", "7", "8", "9", "12", "11", "01", "10", "-1", "+1", "1.0", "one", "", "a", "1a", "1 1"):
            self.assert_no_kind(f"num {figure}")
            self.assert_no_kind(f"row num {figure}")
            self.assert_no_kind(f"rec (a num {figure}, b text)")
            self.assert_no_paper(f"door a 0 (b copy num {figure}) none")
            self.assert_no_paper(f"door a 0 () num {figure}")

    def test_sides(self):
        for side in ("2", "3", "9", "00", "01", "10", "11", "-1", "", "a", "x", "none", "1 1", "0.0"):
            self.assert_no_paper(f"door a {side} () none")

    def test_ways(self):
        for way in ("", "Copy", "COPY", "cop", "copyy", "take", "leased", "lends", "door", "copy copy", "1", "none"):
            self.assert_no_paper(f"door a 0 (b {way} text) none")

    def test_words_that_are_none(self):
        for word in ("Text", "TEXT", "texts", "tex", "nums 1", "Num 1", "rows text", "recs (a text)", "list text", "none",
                     "door", "int", "num1", "rowtext", "row none", "rec (a none)"):
            self.assert_no_kind(word)
        for word in ("Door", "doors", "dor", "paper", "", "text"):
            self.assert_no_paper(f"{word} a 0 () none")
        for result in ("None", "nothing", "nones", "non", "", "0", "()", "none text", "text none"):
            self.assert_no_paper(f"door a 0 () {result}")

    def test_too_deep(self):
        self.assert_no_kind("row row row row row text")
        self.assert_no_kind("row row row row rec (a num 1)")
        self.assert_no_kind("rec (a text, b row row row row text)")
        self.assert_no_kind("rec (a rec (a rec (a rec (a rec (a text)))))")
        self.assert_no_paper("door a 0 (b copy row row row row row text) none")
        self.assert_no_paper("door a 0 () row row row row row text")

    def test_seven_fields(self):
        fields = ", ".join(f"{name} text" for name in "abcdefg")
        for head in ("rec", "pick"):
            self.assert_no_kind(f"{head} ({fields})")
            self.assert_no_kind(f"row {head} ({fields})")
            self.assert_no_paper(f"door a 0 (b copy {head} ({fields})) none")
            self.assert_no_paper(f"door a 0 () {head} ({fields})")

    def test_very_long_texts(self):
        many = 100000
        for text in ("a" * many, " " * many, "1" * many, "text " * many, "text, " * many, "row " * many, "row " * many + "text",
                     "(" * many, "rec (" * many, "rec (a " * many + "text" + ")" * many, "pick (a " * many, ")" * many,
                     "rec (" + "a" * many + " text)", "rec (" + "a text, " * many + "b text)", "num " + "1" * many,
                     "text" + " " * many, "door " * many, "rec (a " + "(" * many, "\n" * many, "num 1" + "\n" * many,
                     "rec (" + "(" * many + "a text" + ")" * many + ")"):
            self.assert_neither(text)
            self.assert_no_paper("door a 0 () " + text)
            self.assert_no_paper("door a 0 (b copy " + text + ") none")
            self.assert_no_paper("door " + text + " 0 () none")
        self.assert_no_paper("door a 0 (" + "b copy text, " * many + "c copy text) none")

    def test_deep_behind_the_first_field_or_place(self):
        for step, end in (("rec (a text, b ", ")"), ("pick (a text, b row ", ")"), ("row ", "")):
            for many in (5, 6, 20, 100000):
                deeper = step * many + "text" + end * many
                self.assert_neither(deeper)
                self.assert_no_kind(f"rec (a text, b {deeper})")
                self.assert_no_paper(f"door a 0 (b copy text, c copy {deeper}) none")
                self.assert_no_paper(f"door a 0 (b copy text) {deeper}")

    def test_line_feeds_and_other_signs(self):
        for sign in SIGNS:
            for text, refused in ((KIND, self.assert_no_kind), (PAPER, self.assert_no_paper)):
                refused(sign + text)
                refused(text + sign)
                refused(sign * 3)

    def test_texts_by_chance(self):
        chance = random.Random(22)
        pieces = ("num ", "text", "row ", "rec (", "pick (", "a ", "b ", ", ", ")", " ", "1", "door ", "0 ", "(", "none", "copy ")
        for case in range(20000):
            text = "".join(chance.choice(pieces) for piece in range(chance.randrange(9)))
            for read, show in ((read_kind, show_kind), (read_paper, show_paper)):
                try:
                    told = read(text)
                except NoText:
                    continue
                self.assertEqual(show(told), text)


if __name__ == "__main__":
    unittest.main()
