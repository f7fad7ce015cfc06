"""Kinds [5] and the kind at a path [7]."""

import unittest

from refusals import RefusalCase
from samples import LABEL, NUM, POINT, SHAPE, SHEET, TEXT, anything, deep, nested, snapshot
from tonguegate.errors import NoPart
from tonguegate.kinds import is_kind, part_kind, size_of


def fields(many):
    return tuple(("abcdefgh"[place], TEXT) for place in range(many))


class IsKind(unittest.TestCase):

    def assert_kind(self, thing):
        self.assertIs(is_kind(thing), True, repr(thing))

    def assert_no_kind(self, thing):
        self.assertIs(is_kind(thing), False, repr(thing))

    def test_ordinary_kinds(self):
        for kind in (NUM, TEXT, ("row", NUM), ("row", ("row", TEXT)), POINT, SHAPE, SHEET):
            self.assert_kind(kind)

    def test_widths(self):
        for width in (1, 2, 3, 4):
            self.assert_kind(("num", width))
        for width in (-1, 0, 5, 6, 10 ** 30, True, False, None, "1", 1.0, (1,), [1]):
            self.assert_no_kind(("num", width))

    def test_how_many_fields(self):
        for head in ("rec", "pick"):
            for many in (1, 2, 5, 6):
                self.assert_kind((head, fields(many)))
            for many in (0, 7, 8):
                self.assert_no_kind((head, fields(many)))

    def test_no_name_twice(self):
        for head in ("rec", "pick"):
            self.assert_no_kind((head, (("a", TEXT), ("a", TEXT))))
            self.assert_no_kind((head, (("a", TEXT), ("b", TEXT), ("a", NUM))))
            self.assert_kind((head, (("a", TEXT), ("aa", TEXT))))

    def test_one_name_at_two_levels(self):
        self.assert_kind(("rec", (("a", ("rec", (("a", TEXT),))), ("b", ("pick", (("a", TEXT),))))))

    def test_names(self):
        for name in ("a", "z", "az", "abcdefgh", "zzzzzzzz"):
            self.assert_kind(("rec", ((name, TEXT),)))
            self.assert_kind(("pick", ((name, TEXT),)))
        wrong = ["", "abcdefghi", "A", "Z", "aB", "a1", "1", "a b", " a", "a ", "a_b", "_", "a-b", "`", "{", "a\n", "\n"]
        wrong += ["a" * 1000, None, True, 1, b"a", ("a",), ["a"]]
        for name in wrong:
            self.assert_no_kind(("rec", ((name, TEXT),)))
            self.assert_no_kind(("pick", ((name, TEXT),)))

    def test_every_letter_and_no_other_sign(self):
        for number in range(128):
            sign = chr(number)
            with self.subTest(number=number):
                self.assertIs(is_kind(("rec", (("a" + sign, TEXT),))), "a" <= sign <= "z")

    def test_depth_of_rows(self):
        for depth in (1, 2, 3, 4, 5):
            self.assert_kind(deep(depth))
        for depth in (6, 7, 40, 100):
            self.assert_no_kind(deep(depth))

    def test_depth_of_fields_is_the_greatest_within(self):
        for head in ("rec", "pick"):
            self.assert_kind((head, (("a", TEXT), ("b", deep(4)), ("c", NUM))))
            self.assert_no_kind((head, (("a", TEXT), ("b", deep(5)), ("c", NUM))))
            self.assert_no_kind((head, (("a", deep(5)), ("b", TEXT))))

    def test_depth_through_all_sorts(self):
        kind = NUM
        for head in ("rec", "row", "pick", "rec"):
            kind = ("row", kind) if head == "row" else (head, (("a", kind),))
        self.assert_kind(kind)
        self.assert_no_kind(("row", kind))
        self.assert_no_kind(("rec", (("a", kind),)))
        self.assert_no_kind(("pick", (("a", kind),)))

    def test_fields_of_wrong_form(self):
        wrong = [None, 1, "a", ("a", TEXT), [("a", TEXT)], {"a": TEXT}, TEXT, (None,), ("a",), (("a",),), ((),)]
        wrong += [(("a", TEXT, None),), (("a", TEXT), None), (["a", TEXT],), ((TEXT, "a"),), (("a", "text"),)]
        wrong += [(("a", ["text"]),), (("a", ()),), (("a", None),), (("a", ("num", 5)),), (("a", TEXT), ("b", ("num", 0)))]
        for thing in wrong:
            self.assert_no_kind(("rec", thing))
            self.assert_no_kind(("pick", thing))

    def test_wrong_within_a_row(self):
        for thing in ("text", None, 1, ["text"], (), ("num",), ("num", True), ("text", 1)):
            self.assert_no_kind(("row", thing))

    def test_a_part_more_or_less(self):
        for kind in (NUM, TEXT, ("row", TEXT), POINT, SHAPE):
            self.assert_no_kind(kind + (None,))
            self.assert_no_kind(kind + (TEXT,))
            self.assert_no_kind(kind[:-1])

    def test_heads(self):
        for head in ("", "nums", "Num", "numb", "texts", "list", "record", None, 1, True, b"num", ("num",), ["num"]):
            self.assert_no_kind((head,))
            self.assert_no_kind((head, 1))
            self.assert_no_kind((head, TEXT))
            self.assert_no_kind((head, (("a", TEXT),)))

    def test_anything(self):
        for thing in anything():
            self.assert_no_kind(thing)
            for held in (("row", thing), ("rec", (("a", thing),)), ("pick", (("a", TEXT), ("b", thing)))):
                self.assert_no_kind(held)
            self.assert_no_kind(("rec", ((thing, NUM, NUM),)))

    def test_deep_tuples_and_lists(self):
        self.assert_no_kind(nested(100))
        listed = []
        for level in range(99):
            listed = [listed]
        self.assert_no_kind(listed)
        self.assert_no_kind(("row", nested(99)))

    def test_nothing_handed_in_is_changed(self):
        things = [["num", 1], ("rec", [("a", TEXT)]), {"a": ["text"]}, ("pick", (("a", ["text"]),)), ("num", [1])]
        before = snapshot(things)
        for thing in things:
            is_kind(thing)
        self.assertEqual(things, before)


class SizeOf(unittest.TestCase):

    def test_sizes(self):
        for width in (1, 2, 3, 4):
            self.assertEqual(size_of(("num", width)), width)
        self.assertEqual(size_of(TEXT), 1)
        self.assertEqual(size_of(("row", ("num", 4))), 1)
        self.assertEqual(size_of(("row", POINT)), 1)
        self.assertEqual(size_of(POINT), 3)
        self.assertEqual(size_of(("rec", (("a", ("num", 4)),))), 4)
        self.assertEqual(size_of(("pick", (("a", ("num", 4)),))), 5)
        self.assertEqual(size_of(("pick", (("a", ("num", 2)), ("b", ("num", 4)), ("c", TEXT)))), 5)
        self.assertEqual(size_of(SHAPE), 4)
        self.assertEqual(size_of(SHEET), 6)

    def test_greatest_size(self):
        kind = ("num", 4)
        for level in range(4):
            kind = ("rec", tuple((name, kind) for name in "abcdef"))
        self.assertIs(is_kind(kind), True)
        self.assertEqual(size_of(kind), 4 * 6 ** 4)

    def test_picks_in_picks(self):
        kind = NUM
        for level in range(4):
            kind = ("pick", (("a", TEXT), ("b", kind)))
        self.assertEqual(size_of(kind), 5)

    def test_beyond_the_limits_no_error(self):
        self.assertEqual(size_of(("num", 5)), 5)
        self.assertEqual(size_of(deep(6)), 1)
        self.assertEqual(size_of(("rec", fields(7))), 7)
        self.assertEqual(size_of(("pick", fields(7))), 2)
        self.assertEqual(size_of(("rec", ())), 0)
        self.assertEqual(size_of(("pick", ())), 1)


class PartKind(RefusalCase):

    def test_the_empty_path_leads_to_the_whole(self):
        for kind in (NUM, TEXT, ("row", TEXT), POINT, SHAPE, SHEET):
            self.assertEqual(part_kind(kind, ()), kind)

    def test_steps(self):
        self.assertEqual(part_kind(POINT, ("x",)), NUM)
        self.assertEqual(part_kind(POINT, ("y",)), ("num", 2))
        self.assertEqual(part_kind(("row", POINT), (3,)), POINT)
        self.assertEqual(part_kind(SHAPE, ("label",)), TEXT)
        self.assertEqual(part_kind(SHEET, ("shapes",)), ("row", SHAPE))
        self.assertEqual(part_kind(SHEET, ("shapes", 7, "path", 59)), NUM)
        self.assertEqual(part_kind(SHEET, ("shapes", 59, "dot", "y")), ("num", 2))
        self.assertEqual(part_kind(SHEET, ("main", "dot", "x")), NUM)

    def test_every_field_of_a_pick_is_a_part_of_its_kind(self):
        for name, inner in SHAPE[1]:
            self.assertEqual(part_kind(SHAPE, (name,)), inner)

    def test_numbers_of_a_row(self):
        for number in (0, 1, 58, 59):
            self.assertEqual(part_kind(("row", TEXT), (number,)), TEXT)
        for number in (-1, -59, -60, -61, 60, 61, 10 ** 30, -10 ** 30, 10 ** 5000):
            self.assert_refused(NoPart, part_kind, ("row", TEXT), (number,))

    def test_numbers_of_a_row_within(self):
        for number in (-1, 60):
            self.assert_refused(NoPart, part_kind, ("row", ("row", TEXT)), (number, 0))
            self.assert_refused(NoPart, part_kind, ("row", ("row", TEXT)), (0, number))

    def test_no_such_field(self):
        for kind in (POINT, SHAPE, SHEET):
            for step in ("", "z", "X", "xy", "dott", "titl", "a" * 100, 0, 1, -1):
                self.assert_refused(NoPart, part_kind, kind, (step,))

    def test_a_name_into_a_row(self):
        for step in ("", "0", "x", "row", "dot"):
            self.assert_refused(NoPart, part_kind, ("row", POINT), (step,))

    def test_no_part_in_a_num_or_a_text(self):
        for kind in (NUM, ("num", 4), TEXT):
            for step in (0, 1, -1, "a", "", "num", "text"):
                self.assert_refused(NoPart, part_kind, kind, (step,))

    def test_a_step_too_many(self):
        self.assert_refused(NoPart, part_kind, POINT, ("x", 0))
        self.assert_refused(NoPart, part_kind, POINT, ("x", "x"))
        self.assert_refused(NoPart, part_kind, SHEET, ("title", 0))
        self.assert_refused(NoPart, part_kind, SHEET, ("shapes", 0, "dot", "x", 0))
        self.assert_refused(NoPart, part_kind, deep(5), (0,) * 2000)

    def test_wrong_on_the_way(self):
        self.assert_refused(NoPart, part_kind, SHEET, ("shape", 0))
        self.assert_refused(NoPart, part_kind, SHEET, ("shapes", "dot"))
        self.assert_refused(NoPart, part_kind, SHEET, ("main", 0, "x"))

    def test_a_truth_is_no_number_of_a_row(self):
        self.assert_refused(NoPart, part_kind, ("row", TEXT), (True,))
        self.assert_refused(NoPart, part_kind, ("row", TEXT), (False,))

    def test_the_head_of_a_worth_is_no_field(self):
        self.assert_refused(NoPart, part_kind, SHAPE, (LABEL[1],))


if __name__ == "__main__":
    unittest.main()
