"""Worths [6], the part of a worth at a path [7], a part exchanged and one more [8]."""

import unittest

from refusals import RefusalCase
from samples import (
    DOT, LABEL, NUM, PAGE, POINT, SHAPE, SHEET, TEXT, TRACK, Awkward, anything, deep, nested, snapshot,
)
from tonguegate.errors import Full, NoPart
from tonguegate.kinds import is_kind, part_kind
from tonguegate.worths import is_worth, part_of, with_more, with_part

ROW = ("row", NUM)
NOTES = ("rec", (("title", TEXT), ("lines", ("row", TEXT))))


class IsWorth(unittest.TestCase):

    def assert_worth(self, kind, thing):
        self.assertIs(is_worth(kind, thing), True, repr((kind, thing)))

    def assert_no_worth(self, kind, thing):
        self.assertIs(is_worth(kind, thing), False, repr((kind, thing)))

    def test_ordinary_worths(self):
        self.assert_worth(NUM, 7)
        self.assert_worth(TEXT, "seven")
        self.assert_worth(ROW, (7, 8, 7))
        self.assert_worth(POINT, (7, -70000))
        self.assert_worth(SHAPE, DOT)
        self.assert_worth(SHAPE, LABEL)
        self.assert_worth(SHAPE, TRACK)
        self.assert_worth(SHEET, PAGE)

    def test_numbers_at_both_ends(self):
        halves = {1: 32768, 2: 2147483648, 3: 140737488355328, 4: 9223372036854775808}
        for width, half in halves.items():
            for number in (-half, -half + 1, -1, 0, 1, half - 2, half - 1):
                self.assert_worth(("num", width), number)
            for number in (-half - 1, half, half + 1, 2 * half, -2 * half, 10 ** 40, -10 ** 40):
                self.assert_no_worth(("num", width), number)

    def test_no_whole_number(self):
        for thing in (True, False, None, "", "1", 1.0, 0.5, b"1", (1,), [1], (), {}, float("nan"), 1j, Awkward()):
            for width in (1, 2, 3, 4):
                self.assert_no_worth(("num", width), thing)

    def test_lengths_of_texts(self):
        for length in (0, 1, 59, 60):
            self.assert_worth(TEXT, "a" * length)
        for length in (61, 62, 5000):
            self.assert_no_worth(TEXT, "a" * length)

    def test_signs_of_texts(self):
        for number in range(128):
            good = 32 <= number <= 126 and number != 37
            for text in (chr(number), "ab" + chr(number), chr(number) + "ab", "a" + chr(number) + "b"):
                with self.subTest(number=number):
                    self.assertIs(is_worth(TEXT, text), good)

    def test_first_and_last_sign_and_their_neighbours(self):
        for sign in (" ", "!", "$", "&", "}", "~"):
            self.assert_worth(TEXT, sign)
        for sign in ("\x1f", "\x7f", "\x25", "\n", "\t", "\0"):
            self.assert_no_worth(TEXT, sign)

    def test_no_text(self):
        for thing in (True, None, 0, 1, b"", b"a", (), ("a",), [], ["a"], {}, {"a": "a"}, Awkward()):
            self.assert_no_worth(TEXT, thing)

    def test_lengths_of_rows(self):
        for length in (0, 1, 59, 60):
            self.assert_worth(ROW, (1,) * length)
            self.assert_worth(("row", TEXT), ("",) * length)
            self.assert_worth(("row", ROW), ((2,),) * length)
        for length in (61, 62, 5000):
            self.assert_no_worth(ROW, (1,) * length)
            self.assert_no_worth(("row", TEXT), ("",) * length)
            self.assert_no_worth(("row", ROW), ((2,),) * length)

    def test_lengths_of_rows_within(self):
        self.assert_worth(("row", ROW), ((), (1,) * 60))
        self.assert_no_worth(("row", ROW), ((), (1,) * 61))

    def test_wrong_items(self):
        for item in (True, False, None, "1", 32768, 1.0, (1,), [1]):
            for row in ((item,), (1, item), (item, 1), (1,) * 59 + (item,)):
                self.assert_no_worth(ROW, row)

    def test_no_tuple_in_the_place_of_a_tuple(self):
        for thing in ([], [1], {}, {1: 1}, set(), range(2), "", "a", b"ab", None, 1, True, Awkward()):
            self.assert_no_worth(ROW, thing)
        for thing in ([1, 2], {1: 1, 2: 2}, {"x": 1, "y": 2}, range(2), "xy", b"xy", None, 1, True, Awkward()):
            self.assert_no_worth(POINT, thing)
        for thing in (["label", "a"], {"label": "a"}, "label", "la", None, 1, True, Awkward()):
            self.assert_no_worth(SHAPE, thing)

    def test_recs(self):
        self.assert_worth(POINT, (0, 0))
        self.assert_worth(POINT, (32767, 32768))
        for thing in ((), (1,), (1, 2, 3), (1, 2, None), (32768, 32767), (True, 2), (1, False), (1, None), ("1", 2)):
            self.assert_no_worth(POINT, thing)
        self.assert_no_worth(POINT, (("x", 1), ("y", 2)))

    def test_the_order_of_a_rec_is_that_of_its_fields(self):
        kind = ("rec", (("b", TEXT), ("a", NUM)))
        self.assert_worth(kind, ("one", 1))
        self.assert_no_worth(kind, (1, "one"))

    def test_a_rec_of_six_fields(self):
        kind = ("rec", tuple((name, NUM) for name in "abcdef"))
        self.assert_worth(kind, (1, 2, 3, 4, 5, 6))
        self.assert_no_worth(kind, (1, 2, 3, 4, 5))
        self.assert_no_worth(kind, (1, 2, 3, 4, 5, "6"))

    def test_picks(self):
        for thing in (("label", ""), ("path", ()), ("dot", (0, 0))):
            self.assert_worth(SHAPE, thing)
        wrong = [(), ("label",), ("label", "a", "b"), ("label", "a", None), ("labels", "a"), ("", "a"), ("label", 1)]
        wrong += [("dot", "a"), ("label", (0, 0)), ("path", ""), ("path", ("0",)), ("a", "label"), (1, "a"), (None, "a")]
        wrong += [(True, "a"), (0, (0, 0)), (b"label", "a"), (("label",), "a"), (["label"], "a"), ("label", None)]
        wrong += [("label", True), ("dot", [0, 0]), (Awkward(), "a"), ("label", Awkward())]
        for thing in wrong:
            self.assert_no_worth(SHAPE, thing)

    def test_wrong_deep_within(self):
        self.assert_no_worth(SHEET, ("one", (DOT, LABEL, ("path", (3, True))), TRACK))
        self.assert_no_worth(SHEET, ("one", (DOT, LABEL, ("path", [3, 4])), TRACK))
        self.assert_no_worth(SHEET, ("one", (DOT, ("label", 5), TRACK), TRACK))
        self.assert_no_worth(SHEET, ("one", [DOT, LABEL, TRACK], TRACK))
        self.assert_no_worth(SHEET, ("one", (DOT, LABEL, TRACK), ("main", TRACK)))

    def test_the_deepest_kind(self):
        self.assert_worth(deep(5), ((((("a"),),),),))
        self.assert_worth(deep(5), (((), ((),)), ()))
        self.assert_no_worth(deep(5), (((((1),),),),))
        self.assert_no_worth(deep(5), ((((("a",),),),),))

    def test_anything(self):
        kinds = (POINT, SHAPE, SHEET, ("row", ("rec", (("a", NUM),))))
        for kind in kinds:
            for thing in anything():
                self.assertIs(is_worth(kind, thing), kind[0] == "row" and isinstance(thing, tuple) and len(thing) == 0)
        for thing in anything():
            self.assert_no_worth(POINT, (1, thing) if not is_worth(("num", 2), thing) else (thing, thing, thing))
            self.assert_no_worth(SHAPE, (thing, "a"))
            self.assert_no_worth(SHAPE, ("dot", thing))
            self.assertIs(is_worth(NUM, thing), type(thing) is int and -32768 <= thing <= 32767)
            self.assertIs(is_worth(TEXT, thing), type(thing) is str)
            self.assertIs(is_worth(ROW, (thing,)), is_worth(NUM, thing))

    def test_deep_tuples_and_lists(self):
        listed = []
        for level in range(99):
            listed = [listed]
        for kind in (NUM, TEXT, ROW, POINT, SHAPE, deep(5)):
            self.assert_no_worth(kind, nested(100))
            self.assert_no_worth(kind, listed)

    def test_beyond_the_limits_no_error(self):
        self.assert_worth(("num", 5), 65536 ** 5 // 2 - 1)
        self.assert_no_worth(("num", 5), 65536 ** 5 // 2)
        self.assert_no_worth(("num", 0), 0)
        self.assert_no_worth(("num", 0), -1)
        self.assert_worth(deep(7), ((((((("a"),),),),),),))
        self.assert_worth(("rec", ()), ())
        self.assert_no_worth(("pick", ()), ("a", 1))

    def test_nothing_handed_in_is_changed(self):
        things = [[1, 2], {"x": [1]}, ([1], [2]), ("path", [1, 2]), ("path", ([1],)), ("label", ["a"])]
        before = snapshot(things)
        for kind in (NUM, TEXT, ROW, POINT, SHAPE):
            for thing in things:
                self.assert_no_worth(kind, thing)
        self.assertEqual(things, before)


class PartOf(RefusalCase):

    def test_the_empty_path_leads_to_the_whole(self):
        for kind, worth in ((NUM, 5), (TEXT, "a"), (ROW, (1, 2)), (POINT, (1, 2)), (SHAPE, LABEL), (SHEET, PAGE)):
            self.assertEqual(part_of(kind, worth, ()), worth)

    def test_steps(self):
        self.assertEqual(part_of(POINT, (7, 8), ("x",)), 7)
        self.assertEqual(part_of(POINT, (7, 8), ("y",)), 8)
        self.assertEqual(part_of(ROW, (7, 8, 9), (0,)), 7)
        self.assertEqual(part_of(ROW, (7, 8, 9), (2,)), 9)
        self.assertEqual(part_of(SHAPE, LABEL, ("label",)), "here")
        self.assertEqual(part_of(SHAPE, TRACK, ("path",)), (3, 4))
        self.assertEqual(part_of(SHEET, PAGE, ("title",)), "one")
        self.assertEqual(part_of(SHEET, PAGE, ("shapes", 1)), LABEL)
        self.assertEqual(part_of(SHEET, PAGE, ("shapes", 0, "dot", "y")), -2)
        self.assertEqual(part_of(SHEET, PAGE, ("main", "path", 1)), 4)

    def test_fields_that_are_not_in_the_order_of_their_names(self):
        kind = ("rec", (("b", NUM), ("c", NUM), ("a", NUM)))
        self.assertEqual([part_of(kind, (1, 2, 3), (name,)) for name in "abc"], [3, 1, 2])

    def test_a_full_row(self):
        row = tuple(range(60))
        for number in range(60):
            self.assertEqual(part_of(ROW, row, (number,)), number)
        for number in (-1, 60, 61, 10 ** 5000):
            self.assert_refused(NoPart, part_of, ROW, row, (number,))

    def test_beyond_the_end_of_a_row(self):
        for many in (0, 1, 2, 59):
            row = tuple(range(many))
            for number in (-many - 1, -many, -2, -1, many, many + 1, 59, 60):
                if not 0 <= number < many:
                    self.assert_refused(NoPart, part_of, ROW, row, (number,))

    def test_beyond_the_end_of_a_row_within(self):
        self.assert_refused(NoPart, part_of, SHEET, PAGE, ("shapes", 3))
        self.assert_refused(NoPart, part_of, SHEET, PAGE, ("shapes", 3, "dot"))
        self.assert_refused(NoPart, part_of, SHEET, PAGE, ("shapes", 2, "path", 2))
        self.assert_refused(NoPart, part_of, SHEET, PAGE, ("shapes", -1))

    def test_a_pick_with_another_name(self):
        self.assert_refused(NoPart, part_of, SHAPE, LABEL, ("dot",))
        self.assert_refused(NoPart, part_of, SHAPE, LABEL, ("path",))
        self.assert_refused(NoPart, part_of, SHAPE, DOT, ("label",))
        self.assert_refused(NoPart, part_of, SHAPE, LABEL, ("dot", "x"))
        self.assert_refused(NoPart, part_of, SHEET, PAGE, ("shapes", 1, "dot"))
        self.assert_refused(NoPart, part_of, SHEET, PAGE, ("shapes", 0, "path", 0))
        self.assert_refused(NoPart, part_of, SHEET, PAGE, ("main", "label"))

    def test_a_pick_whose_names_hold_one_kind(self):
        kind = ("pick", (("a", NUM), ("b", NUM)))
        self.assertEqual(part_of(kind, ("b", 4), ("b",)), 4)
        self.assert_refused(NoPart, part_of, kind, ("b", 4), ("a",))

    def test_what_the_kind_has_not(self):
        self.assert_refused(NoPart, part_of, NUM, 5, (0,))
        self.assert_refused(NoPart, part_of, TEXT, "abc", (0,))
        self.assert_refused(NoPart, part_of, TEXT, "abc", ("a",))
        self.assert_refused(NoPart, part_of, POINT, (7, 8), (0,))
        self.assert_refused(NoPart, part_of, POINT, (7, 8), ("z",))
        self.assert_refused(NoPart, part_of, POINT, (7, 8), ("x", 0))
        self.assert_refused(NoPart, part_of, SHAPE, LABEL, (0,))
        self.assert_refused(NoPart, part_of, SHAPE, LABEL, (1,))
        self.assert_refused(NoPart, part_of, SHAPE, LABEL, ("labels",))
        self.assert_refused(NoPart, part_of, SHAPE, LABEL, ("label", 0))
        self.assert_refused(NoPart, part_of, ROW, (7, 8), ("0",))
        self.assert_refused(NoPart, part_of, ROW, (7, 8), (0, 0))
        self.assert_refused(NoPart, part_of, ROW, (7, 8), (True,))


class WithPart(RefusalCase):

    def test_the_empty_path(self):
        self.assertEqual(with_part(NUM, 5, (), 6), 6)
        self.assertEqual(with_part(TEXT, "a", (), "b"), "b")
        self.assertEqual(with_part(ROW, (1, 2), (), ()), ())
        self.assertEqual(with_part(POINT, (1, 2), (), (3, 4)), (3, 4))
        self.assertEqual(with_part(SHAPE, LABEL, (), DOT), DOT)

    def test_a_field(self):
        self.assertEqual(with_part(POINT, (1, 2), ("x",), 9), (9, 2))
        self.assertEqual(with_part(POINT, (1, 2), ("y",), 9), (1, 9))
        kind = ("rec", (("b", NUM), ("c", NUM), ("a", NUM)))
        self.assertEqual(with_part(kind, (1, 2, 3), ("a",), 9), (1, 2, 9))
        self.assertEqual(with_part(kind, (1, 2, 3), ("b",), 9), (9, 2, 3))

    def test_an_item(self):
        self.assertEqual(with_part(ROW, (1, 2, 3), (0,), 9), (9, 2, 3))
        self.assertEqual(with_part(ROW, (1, 2, 3), (1,), 9), (1, 9, 3))
        self.assertEqual(with_part(ROW, (1, 2, 3), (2,), 9), (1, 2, 9))
        self.assertEqual(with_part(ROW, tuple(range(60)), (59,), -1), tuple(range(59)) + (-1,))
        self.assertEqual(with_part(("row", ROW), ((1,), (2,)), (1,), (3, 4)), ((1,), (3, 4)))

    def test_the_part_of_a_pick_by_the_name_that_it_has(self):
        self.assertEqual(with_part(SHAPE, LABEL, ("label",), "there"), ("label", "there"))
        self.assertEqual(with_part(SHAPE, DOT, ("dot",), (8, 9)), ("dot", (8, 9)))

    def test_the_part_of_a_pick_by_another_name(self):
        self.assertEqual(with_part(SHAPE, LABEL, ("dot",), (8, 9)), ("dot", (8, 9)))
        self.assertEqual(with_part(SHAPE, DOT, ("label",), "new"), ("label", "new"))
        self.assertEqual(with_part(SHAPE, DOT, ("path",), ()), ("path", ()))
        kind = ("pick", (("a", NUM), ("b", NUM)))
        self.assertEqual(with_part(kind, ("b", 4), ("a",), 4), ("a", 4))

    def test_the_part_of_a_pick_within(self):
        changed = with_part(SHEET, PAGE, ("shapes", 1, "dot"), (8, 9))
        self.assertEqual(changed, ("one", (DOT, ("dot", (8, 9)), TRACK), TRACK))
        changed = with_part(SHEET, PAGE, ("main", "label"), "end")
        self.assertEqual(changed, ("one", (DOT, LABEL, TRACK), ("label", "end")))

    def test_picks_in_picks(self):
        kind = ("pick", (("in", ("pick", (("a", NUM), ("b", TEXT)))), ("out", NUM)))
        self.assertEqual(with_part(kind, ("in", ("a", 1)), ("in", "b"), "x"), ("in", ("b", "x")))
        self.assertEqual(with_part(kind, ("out", 1), ("in",), ("b", "x")), ("in", ("b", "x")))
        self.assert_refused(NoPart, with_part, kind, ("out", 1), ("in", "b"), "x")

    def test_a_pick_on_the_way(self):
        self.assertEqual(with_part(SHAPE, DOT, ("dot", "y"), 9), ("dot", (1, 9)))
        self.assertEqual(with_part(SHAPE, TRACK, ("path", 1), 9), ("path", (3, 9)))
        self.assertEqual(with_part(SHEET, PAGE, ("main", "path", 0), 9)[2], ("path", (9, 4)))

    def test_a_pick_on_the_way_with_another_name(self):
        self.assert_refused(NoPart, with_part, SHAPE, LABEL, ("dot", "y"), 9)
        self.assert_refused(NoPart, with_part, SHAPE, DOT, ("path", 0), 9)
        self.assert_refused(NoPart, with_part, SHEET, PAGE, ("shapes", 1, "dot", "x"), 9)
        self.assert_refused(NoPart, with_part, SHEET, PAGE, ("main", "dot", "x"), 9)

    def test_a_name_that_the_pick_has_not(self):
        for step in ("", "labels", "x", 0, 1):
            self.assert_refused(NoPart, with_part, SHAPE, LABEL, (step,), "a")

    def test_no_such_item(self):
        for many in (0, 1, 59, 60):
            row = tuple(range(many))
            for number in (-1, many, many + 1, 60):
                self.assert_refused(NoPart, with_part, ROW, row, (number,), 5)
        self.assert_refused(NoPart, with_part, SHEET, PAGE, ("shapes", 3), DOT)
        self.assert_refused(NoPart, with_part, SHEET, PAGE, ("shapes", 3, "dot"), (0, 0))

    def test_what_the_kind_has_not(self):
        self.assert_refused(NoPart, with_part, NUM, 5, (0,), 6)
        self.assert_refused(NoPart, with_part, TEXT, "abc", (0,), "d")
        self.assert_refused(NoPart, with_part, POINT, (1, 2), ("z",), 3)
        self.assert_refused(NoPart, with_part, POINT, (1, 2), (0,), 3)
        self.assert_refused(NoPart, with_part, POINT, (1, 2), ("x", "x"), 3)
        self.assert_refused(NoPart, with_part, ROW, (1, 2), ("x",), 3)
        self.assert_refused(NoPart, with_part, SHAPE, LABEL, ("label", 0), 3)
        self.assert_refused(NoPart, with_part, deep(5), ((),), (0,) * 2000, "a")

    def test_only_the_part_is_another_one(self):
        paths = [("title",), ("shapes",), ("shapes", 0), ("shapes", 0, "dot"), ("shapes", 2, "path", 1), ("main",)]
        for path in paths:
            self.assertEqual(with_part(SHEET, PAGE, path, part_of(SHEET, PAGE, path)), PAGE)

    def test_what_is_told_is_a_worth_and_has_the_part(self):
        parts = {
            ("title",): "two", ("shapes",): (), ("shapes", 1): DOT, ("shapes", 1, "path"): (1, 1),
            ("shapes", 2, "path", 0): 77, ("shapes", 0, "dot", "y"): 70000, ("main", "dot"): (4, 4),
        }
        for path, part in parts.items():
            changed = with_part(SHEET, PAGE, path, part)
            self.assertIs(is_worth(SHEET, changed), True)
            self.assertEqual(part_of(SHEET, changed, path), part)

    def test_nothing_handed_in_is_changed(self):
        page = snapshot(PAGE)
        part = (1, 1)
        with_part(SHEET, page, ("shapes", 1, "path"), part)
        self.assertEqual((page, part), (PAGE, (1, 1)))


class WithMore(RefusalCase):

    def test_the_row_itself(self):
        self.assertEqual(with_more(ROW, (), (), 5), (5,))
        self.assertEqual(with_more(ROW, (1, 2), (), 5), (1, 2, 5))
        self.assertEqual(with_more(("row", ROW), ((1,),), (), (2, 3)), ((1,), (2, 3)))
        self.assertEqual(with_more(("row", ROW), (), (), ()), ((),))

    def test_a_row_within(self):
        self.assertEqual(with_more(("row", ROW), ((1,), (2,)), (0,), 5), ((1, 5), (2,)))
        self.assertEqual(with_more(NOTES, ("t", ("a",)), ("lines",), "b"), ("t", ("a", "b")))
        self.assertEqual(with_more(SHAPE, TRACK, ("path",), 7), ("path", (3, 4, 7)))
        changed = with_more(SHEET, PAGE, ("shapes", 2, "path"), 7)
        self.assertEqual(changed, ("one", (DOT, LABEL, ("path", (3, 4, 7))), TRACK))
        changed = with_more(SHEET, PAGE, ("shapes",), LABEL)
        self.assertEqual(changed, ("one", (DOT, LABEL, TRACK, LABEL), TRACK))

    def test_a_row_of_fifty_nine_and_of_sixty(self):
        almost = tuple(range(59))
        full = tuple(range(60))
        self.assertEqual(with_more(ROW, almost, (), 59), full)
        self.assert_refused(Full, with_more, ROW, full, (), 60)
        kind = ("row", ROW)
        self.assertEqual(with_more(kind, ((), almost), (1,), 59), ((), full))
        self.assert_refused(Full, with_more, kind, ((), full), (1,), 60)
        self.assertEqual(with_more(kind, ((), full), (0,), 1), ((1,), full))
        self.assertEqual(with_more(kind, (full,) * 59, (), full), (full,) * 60)

    def test_a_full_row_around_a_row_with_room(self):
        kind = ("row", ROW)
        self.assertEqual(with_more(kind, ((),) * 60, (59,), 1), ((),) * 59 + ((1,),))
        self.assert_refused(Full, with_more, kind, ((),) * 60, (), ())

    def test_a_full_row_in_a_pick(self):
        full = ("path", (1,) * 60)
        self.assert_refused(Full, with_more, SHAPE, full, ("path",), 1)
        self.assert_refused(Full, with_more, SHEET, ("one", (), full), ("main", "path"), 1)

    def test_no_row(self):
        self.assert_refused(NoPart, with_more, NUM, 5, (), 1)
        self.assert_refused(NoPart, with_more, TEXT, "abc", (), "d")
        self.assert_refused(NoPart, with_more, TEXT, "a" * 60, (), "d")
        self.assert_refused(NoPart, with_more, POINT, (1, 2), (), 3)
        self.assert_refused(NoPart, with_more, POINT, (1, 2), ("x",), 3)
        self.assert_refused(NoPart, with_more, SHAPE, TRACK, (), 7)
        self.assert_refused(NoPart, with_more, SHAPE, LABEL, ("label",), "a")
        self.assert_refused(NoPart, with_more, SHEET, PAGE, ("shapes", 2, "path", 0), 9)

    def test_the_part_is_refused(self):
        self.assert_refused(NoPart, with_more, SHAPE, LABEL, ("path",), 7)
        self.assert_refused(NoPart, with_more, SHAPE, LABEL, ("paths",), 7)
        self.assert_refused(NoPart, with_more, SHEET, PAGE, ("shapes", 1, "path"), 7)
        self.assert_refused(NoPart, with_more, SHEET, PAGE, ("shapes", 3, "path"), 7)
        self.assert_refused(NoPart, with_more, NOTES, ("t", ()), ("line",), "b")
        self.assert_refused(NoPart, with_more, NOTES, ("t", ()), (1,), "b")
        for number in (-1, 2, 59, 60):
            self.assert_refused(NoPart, with_more, ("row", ROW), ((1,), (2,)), (number,), 5)

    def test_no_part_goes_ahead_of_full(self):
        full = (1,) * 60
        self.assert_refused(NoPart, with_more, ROW, full, (0,), 1)
        self.assert_refused(NoPart, with_more, ROW, full, (60,), 1)
        self.assert_refused(NoPart, with_more, ("row", ROW), (full,) * 60, (60,), 1)
        kind = ("pick", (("a", ROW), ("b", ROW)))
        self.assert_refused(NoPart, with_more, kind, ("a", full), ("b",), 1)
        self.assert_refused(Full, with_more, kind, ("a", full), ("a",), 1)

    def test_nothing_handed_in_is_changed(self):
        page = snapshot(PAGE)
        with_more(SHEET, page, ("shapes",), DOT)
        with_more(SHEET, page, ("main", "path"), 7)
        self.assertEqual(page, PAGE)


class Together(RefusalCase):
    """All paths of up to five steps into one worth: kind, part and exchange agree with one another."""

    STEPS = ("title", "shapes", "main", "dot", "label", "path", "x", "y", -1, 0, 1, 2, 3)

    def paths(self, kind, path):
        """The path to this kind, all that go on from it, and each that has one wrong step at its end."""
        yield path
        for step in self.STEPS:
            try:
                inner = part_kind(kind, (step,))
            except NoPart:
                yield path + (step,)
                continue
            yield from self.paths(inner, path + (step,))

    def test_they_agree(self):
        self.assertIs(is_kind(SHEET), True)
        seen = 0
        for path in self.paths(SHEET, ()):
            try:
                part = part_of(SHEET, PAGE, path)
            except NoPart:
                seen += 1
                continue
            self.assertIs(is_worth(part_kind(SHEET, path), part), True)
            self.assertEqual(with_part(SHEET, PAGE, path, part), PAGE)
            if part_kind(SHEET, path)[0] == "row":
                grown = with_more(SHEET, PAGE, path, part[0])
                self.assertEqual(part_of(SHEET, grown, path), part + (part[0],))
            else:
                self.assert_refused(NoPart, with_more, SHEET, PAGE, path, 0)
        self.assertGreater(seen, 100)


if __name__ == "__main__":
    unittest.main()
