"""The forms of programs [22]: doors, shelves, bodies and each sort of statement, good and spoilt in each part."""

import unittest

from samples import NUM, TEXT, Awkward, anything, deep, nested, snapshot
from sketches import EITHER, PAIR, door, lone, program, within
from things import ROW
from tonguegate.programs import is_program

NO_NAMES = ("", "A", "aB", "a1", "a_b", "abcdefghi", " a", "a ", "a\n", b"a", None, 0, 1, True, ("a",), ["a"], {}, Awkward())
NO_PATHS = (None, 0, "", "a", "n", [], ["n"], {}, True, (None,), (True,), (False,), (1.0,), (("n",),), ((),), ([],), (b"n",),
            (Awkward(),), Awkward(), {"n": 1})
NO_BODIES = (None, 0, "", "a", [], [("fail", 1)], {}, True, (None,), (1,), ("",), ("fail",), ("fail", 1), ((),), ([],),
             ([("fail", 1)],), (["fail", 1],), (Awkward(),), Awkward(), (("fail", 1), None), (("fail", 1000),), ((("fail", 1),),))
NO_FAILS = (-1, 1000, 1001, -10 ** 40, 10 ** 40, True, False, None, 1.0, "1", "", (1,), [1], (), b"1", Awkward())
NO_NAME_TUPLES = (None, 0, "", "a", "ab", [], ["a"], {}, True, (None,), (1,), ("",), ("A",), (("a",),), (["a"],), ((),),
                  (Awkward(),), Awkward(), ("a", None), {"a"})

# Places of the kinds that the statements below use: a and b nums, p a pair, q another one, r a row, e a pick.
PLACES = (("a", "give", NUM), ("b", "give", NUM), ("p", "give", PAIR), ("q", "give", PAIR), ("r", "give", ROW),
          ("e", "give", EITHER))
HELP = door("help", 1, (("x", "copy", NUM), ("y", "lend", PAIR)), TEXT, ("new", "t", TEXT, "hi"), ("back", "t"))

# Each sort of statement; for each of its parts, its place and things that may not stand there.
GOOD = {
    "new": ("new", "c", PAIR, (1, "one")),
    "copy": ("copy", "c", "p"),
    "part": ("part", "d", "p", ("t",)),
    "put": ("put", "p", ("n",), "a"),
    "add": ("add", "r", (), "a"),
    "drop": ("drop", "p"),
    "say": ("say", "p"),
    "call": ("call", "f", "help", ("a", "p")),
    "same": ("same", "p", "q", (("say", "p"),), (("drop", "q"),)),
    "fail": ("fail", 7),
    "try": ("try", (("say", "p"),), (("drop", "q"),)),
    "back": ("back", "b"),
}
SPOILT = (
    ("new", 1, NO_NAMES), ("new", 2, (None, 0, "num", ["num", 1], list(PAIR), deep(6), ("num", 5), NUM, TEXT, Awkward())),
    ("new", 3, (None, 1, "one", [1, "one"], (1,), (1, "one", 2), ("one", 1), (True, "one"), (32768, "one"), (1, "a" * 61),
                (1, ["o"]), Awkward(), (Awkward(), Awkward()))),
    ("copy", 1, NO_NAMES), ("copy", 2, NO_NAMES),
    ("part", 1, NO_NAMES), ("part", 2, NO_NAMES), ("part", 3, NO_PATHS),
    ("put", 1, NO_NAMES), ("put", 2, NO_PATHS), ("put", 3, NO_NAMES),
    ("add", 1, NO_NAMES), ("add", 2, NO_PATHS), ("add", 3, NO_NAMES),
    ("drop", 1, NO_NAMES), ("say", 1, NO_NAMES),
    ("call", 1, [name for name in NO_NAMES if name is not None]), ("call", 2, NO_NAMES), ("call", 3, NO_NAME_TUPLES),
    ("same", 1, NO_NAMES), ("same", 2, NO_NAMES), ("same", 3, NO_BODIES), ("same", 4, NO_BODIES),
    ("fail", 1, NO_FAILS),
    ("try", 1, NO_BODIES), ("try", 2, NO_BODIES),
    ("back", 1, NO_NAMES),
)


def with_body(*body):
    """A program in which the statements stand in a door with all places."""
    return program(door("main", 0, PLACES, NUM, *body), HELP)


def with_shelf(shelf):
    return program(door("main", 0, (), None), shelves=(("a", 0, NUM, 1), shelf))


class FormCase(unittest.TestCase):

    def assert_good(self, thing):
        self.assertIs(is_program(thing), True, repr(thing))

    def assert_none(self, thing):
        self.assertIs(is_program(thing), False, repr(thing))


class Statements(FormCase):

    def test_each_sort_is_good(self):
        self.assertEqual(len(GOOD), 12)
        for statement in GOOD.values():
            self.assert_good(with_body(statement))
            self.assert_good(with_body(statement, ("fail", 0)))
        self.assert_good(with_body(("call", None, "help", ("a", "p"))))
        self.assert_good(with_body(*GOOD.values()))

    def test_spoilt_in_each_part(self):
        for word, place, spoils in SPOILT:
            good = GOOD[word]
            for spoil in spoils:
                spoilt = good[:place] + (spoil,) + good[place + 1:]
                self.assert_none(with_body(spoilt))
                self.assert_none(with_body(("fail", 0), spoilt, ("fail", 0)))
                self.assert_none(with_body(("try", (), (spoilt,))))

    def test_a_part_more_or_less(self):
        for statement in GOOD.values():
            for place in range(len(statement)):
                self.assert_none(with_body(statement[:place] + statement[place + 1:]))
            for more in (None, 0, "a", (), statement[-1]):
                self.assert_none(with_body(statement + (more,)))
                self.assert_none(with_body((statement[0], more) + statement[1:]))

    def test_a_list_in_the_place_of_a_tuple(self):
        for statement in GOOD.values():
            self.assert_none(with_body(list(statement)))
            for place, part in enumerate(statement):
                if isinstance(part, tuple):
                    self.assert_none(with_body(statement[:place] + (list(part),) + statement[place + 1:]))

    def test_a_wrong_word(self):
        for statement in GOOD.values():
            for word in ("", "New", "news", "cop", "set", "end", "push", None, 0, True, b"new", ("new",), ["new"], Awkward()):
                self.assert_none(with_body((word,) + statement[1:]))
            # The words of statements that have other forms.
            for word, other in GOOD.items():
                if len(other) != len(statement):
                    self.assert_none(with_body((word,) + statement[1:]))

    def test_fail_from_0_to_999(self):
        for number in (0, 1, 500, 998, 999):
            self.assert_good(lone(("fail", number)))
        for number in NO_FAILS:
            self.assert_none(lone(("fail", number)))

    def test_new_of_each_kind(self):
        for kind, worth in ((NUM, -32768), (("num", 4), 2 ** 63 - 1), (TEXT, ""), (ROW, (1,) * 60), (PAIR, (0, "~")),
                            (EITHER, ("r", (1, 2))), (EITHER, ("n", 3)), (deep(5), ())):
            self.assert_good(lone(("new", "x", kind, worth)))
        for kind, worth in ((NUM, -32769), (NUM, True), (NUM, "1"), (("num", 4), 2 ** 63), (TEXT, 1), (TEXT, "a" * 61),
                            (TEXT, "\n"), (ROW, (1,) * 61), (ROW, [1]), (PAIR, (0,)), (EITHER, ("x", 1)), (EITHER, ("n", (1,))),
                            (deep(5), ((((1,),),),)), (deep(6), ())):
            self.assert_none(lone(("new", "x", kind, worth)))

    def test_empty_bodies_and_names(self):
        self.assert_good(lone())
        self.assert_good(lone(("try", (), ())))
        self.assert_good(lone(("new", "x", NUM, 1), ("same", "x", "x", (), ())))
        self.assert_good(lone(("call", None, "main", ())))

    def test_anything_in_the_place_of_a_statement(self):
        for thing in anything():
            self.assert_none(lone(thing))
            self.assert_none(lone(("fail", 1), thing))
            self.assert_none(lone(("try", (), (thing,))))
            self.assert_none(lone(("new", "x", NUM, 1), ("same", "x", "x", (thing,), ())))


class Bodies(FormCase):

    def test_depth_4_and_5(self):
        for statement in (("fail", 1), ("new", "x", NUM, 1)):
            for depth in (1, 2, 3, 4):
                self.assert_good(lone(*within((statement,), depth)))
            for depth in (5, 6, 7, 20):
                self.assert_none(lone(*within((statement,), depth)))

    def test_empty_bodies_have_a_depth_too(self):
        self.assert_good(lone(*within((), 4)))
        self.assert_none(lone(*within((), 5)))

    def test_first_and_second_bodies_of_each_sort(self):
        new = ("new", "x", NUM, 1)
        for around in (lambda body: ("try", body, ()), lambda body: ("try", (), body),
                       lambda body: ("same", "x", "x", body, ()), lambda body: ("same", "x", "x", (), body)):
            for depth in (2, 3, 4):
                self.assert_good(lone(new, around(within((("say", "x"),), depth - 1))))
            self.assert_none(lone(new, around(within((("say", "x"),), 4))))
            self.assert_good(lone(new, around((around((around(()),)),))))
            self.assert_none(lone(new, around((around((around((around(()),)),)),))))

    def test_each_body_has_a_depth_of_its_own(self):
        three = within((("fail", 1),), 3)
        self.assert_good(lone(("try", three, three), ("try", three, three)))
        self.assert_good(program(door("a", 0, (), None, *within((), 4)), door("b", 0, (), None, *within((), 4))))

    def test_very_deep(self):
        self.assert_none(lone(*within((), 40)))
        self.assert_none(lone(nested(90)))
        self.assert_none(nested(100))

    def test_many_statements(self):
        self.assert_good(lone(*[("new", "x", NUM, 1)] * 2000))
        self.assert_none(lone(*[("new", "x", NUM, 1)] * 2000, ("new", "x", NUM, "1")))


class Doors(FormCase):

    def test_no_door_and_no_shelf(self):
        self.assert_good(((), ()))
        self.assert_good(((), (("a", 0, NUM, 1),)))
        self.assert_good((((("a", 0, (), None), ()),), ()))

    def test_doors_that_are_none(self):
        good = door("main", 0, (("a", "copy", NUM),), None, ("say", "a"))
        self.assert_good(program(good))
        for spoilt in (None, 0, "", (), good[0], good[:1], good + (None,), good + good, list(good), (good[0], list(good[1])),
                       (list(good[0]), good[1]), (good[1], good[0]), (good[0], None), (None, good[1]), (good[0], "ab"),
                       (good[0][:3], ()), (good[0] + (None,), ()), (("Main",) + good[0][1:], ()), (("main", 2, (), None), ()),
                       (("main", True, (), None), ()), (("main", 0, (), "none"), ()), (("main", 0, [], None), ()),
                       (("main", 0, (("a", "take", NUM),), None), ()), (("main", 0, (("a", "copy", ("num", 5)),), None), ()),
                       (Awkward(), ()), (good[0], Awkward()), Awkward()):
            self.assert_none(program(spoilt))
            self.assert_none(program(door("other", 1, (), None), spoilt))
        for thing in anything():
            self.assert_none(program(thing))
            self.assert_none(program((thing, ())))
            # An empty tuple is a good body.
            if not isinstance(thing, tuple) or len(thing):
                self.assert_none(program((good[0], thing)))

    def test_doors_in_another_form(self):
        for doors in (None, 0, "", "ab", [], [door("a", 0, (), None)], {}, True, door("a", 0, (), None), ((),), ("",), Awkward()):
            self.assert_none((doors, ()))


class Shelves(FormCase):

    def test_good_shelves(self):
        for kind, worth in ((NUM, 3), (TEXT, "a"), (PAIR, (1, "b")), (deep(5), ())):
            for side in (0, 1):
                self.assert_good(with_shelf(("s", side, kind, worth)))

    def test_spoilt_shelves(self):
        good = ("s", 1, PAIR, (1, "b"))
        self.assert_good(with_shelf(good))
        for name in NO_NAMES:
            self.assert_none(with_shelf((name,) + good[1:]))
        for side in (2, -1, True, False, None, "0", 0.0, (), (0,), Awkward()):
            self.assert_none(with_shelf(good[:1] + (side,) + good[2:]))
        for kind in (NUM, TEXT, None, "num", list(PAIR), deep(6), (), Awkward()):
            self.assert_none(with_shelf(good[:2] + (kind,) + good[3:]))
        for worth in (None, 1, "b", [1, "b"], (1,), ("b", 1), (1, "b", 2), (True, "b"), (40000, "b"), Awkward()):
            self.assert_none(with_shelf(good[:3] + (worth,)))
        for place in range(4):
            self.assert_none(with_shelf(good[:place] + good[place + 1:]))
        self.assert_none(with_shelf(good + (None,)))
        self.assert_none(with_shelf(list(good)))

    def test_anything_in_the_place_of_a_shelf(self):
        for thing in anything():
            self.assert_none(with_shelf(thing))
        for shelves in (None, 0, "", "ab", [], [("s", 1, NUM, 1)], {}, True, ("s", 1, NUM, 1), ((),), ("",), Awkward()):
            self.assert_none(((), shelves))


class Anything(FormCase):

    def test_what_is_no_tuple_of_two(self):
        good = with_body(*GOOD.values())
        self.assert_good(good)
        self.assert_none(list(good))
        self.assert_none(good + ((),))
        self.assert_none(good[:1])
        self.assert_none((good,))
        self.assert_none(good[::-1])
        self.assert_none(good[0])

    def test_anything(self):
        for thing in anything() + ["program", "ab", ((),), ((), (), ()), (None, None), ("", ""), ([], []), (Awkward(),) * 2]:
            self.assert_none(thing)

    def test_nothing_is_changed(self):
        thing = [[["main", 0, [], None], [["new", "x", ["num", 1], 1]]], []]
        before = snapshot(thing)
        is_program(thing)
        is_program((tuple(thing[0]), ()))
        is_program((((("main", 0, (), None), thing[0][1]),), thing[1]))
        self.assertEqual(thing, before)


if __name__ == "__main__":
    unittest.main()
