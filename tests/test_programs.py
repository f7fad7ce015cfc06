"""The rules of good programs [23], each kept and broken just once."""

import unittest

from samples import NUM, TEXT, deep
from sketches import EITHER, PAIR, ROWS, door, lone, program
from things import ROW
from tonguegate.programs import is_program

NEW = ("new", "x", NUM, 1)
WAYS = ("copy", "give", "lend", "lease")
SHELF = ("s", 0, NUM, 5)


def taker(way, kind=NUM, result=None):
    """A door of side 1 with one place of this way."""
    back = () if result is None else (("fail", 0),)
    return door("take" if way == "give" else way, 1, (("v", way, kind),), result, *back)


class RuleCase(unittest.TestCase):

    def assert_good(self, *things):
        for thing in things:
            self.assertIs(is_program(thing), True, repr(thing))

    def assert_none(self, *things):
        for thing in things:
            self.assertIs(is_program(thing), False, repr(thing))


class DoorsAndShelves(RuleCase):

    def test_doors_of_one_name(self):
        self.assert_good(program(door("a", 0, (), None), door("b", 0, (), None)))
        self.assert_good(program(door("a", 0, (), None), door("ab", 1, (), None)))
        self.assert_none(program(door("a", 0, (), None), door("a", 0, (), None)))
        self.assert_none(program(door("a", 0, (), None), door("a", 1, (), None)))
        self.assert_none(program(door("a", 0, (), None), door("b", 0, (), None), door("a", 1, (("x", "copy", NUM),), NUM)))

    def test_shelves_of_one_name(self):
        self.assert_good(program(shelves=(("s", 0, NUM, 1), ("s", 1, NUM, 1))))
        self.assert_good(program(shelves=(("s", 0, NUM, 1), ("s", 1, TEXT, "a"), ("t", 0, NUM, 1))))
        self.assert_none(program(shelves=(("s", 0, NUM, 1), ("s", 0, NUM, 1))))
        self.assert_none(program(shelves=(("s", 1, NUM, 1), ("t", 1, NUM, 2), ("s", 1, TEXT, ""))))

    def test_a_place_with_a_shelfs_name(self):
        for side in (0, 1):
            shelf = ("s", side, NUM, 1)
            for way in WAYS:
                place = ("s", way, NUM)
                self.assert_none(program(door("a", side, (place,), None), shelves=(shelf,)))
                self.assert_good(program(door("a", 1 - side, (place,), None), shelves=(shelf,)))
                self.assert_none(program(door("b", 0, (), None), door("a", side, (("r", "copy", NUM), place), None),
                                         shelves=(("q", side, NUM, 1), shelf)))

    def test_doors_shelves_and_names_may_have_one_name(self):
        self.assert_good(program(door("s", 0, (("a", "copy", NUM),), None, ("new", "main", NUM, 1), ("say", "s"), ("say", "a")),
                                 door("a", 1, (("s", "copy", TEXT),), None, ("say", "s")), shelves=(SHELF,)))

    def test_every_door_is_looked_at(self):
        bad = door("bad", 0, (), None, ("say", "x"))
        good = door("good", 0, (), None, NEW, ("say", "x"))
        self.assert_good(program(good))
        self.assert_none(program(good, bad), program(bad, good), program(bad))


class KindsOfNames(RuleCase):

    def test_made_anew_by_the_same_kind(self):
        self.assert_good(lone(NEW, NEW, ("new", "x", NUM, 2)))
        self.assert_good(lone(NEW, ("new", "y", NUM, 2), ("copy", "x", "y")))
        self.assert_good(lone(NEW, ("new", "p", PAIR, (1, "a")), ("part", "x", "p", ("n",))))
        self.assert_good(program(door("main", 0, (), None, NEW, ("call", "x", "get", ())), door("get", 1, (), NUM, NEW, ("back", "x"))))

    def test_made_anew_by_another_kind(self):
        self.assert_none(lone(NEW, ("new", "x", ("num", 2), 1)))
        self.assert_none(lone(NEW, ("new", "x", TEXT, "")))
        self.assert_none(lone(NEW, ("new", "y", TEXT, ""), ("copy", "x", "y")))
        self.assert_none(lone(NEW, ("new", "p", PAIR, (1, "a")), ("part", "x", "p", ("t",))))
        self.assert_none(lone(NEW, ("new", "p", PAIR, (1, "a")), ("part", "x", "p", ())))
        self.assert_none(program(door("main", 0, (), None, NEW, ("call", "x", "get", ())), door("get", 1, (), TEXT)))

    def test_dropped_and_made_by_another_kind(self):
        self.assert_none(lone(NEW, ("drop", "x"), ("new", "x", TEXT, "")))
        self.assert_good(lone(NEW, ("drop", "x"), NEW))

    def test_a_place_is_made_by_its_own_kind(self):
        for way in ("copy", "give"):
            places = (("x", way, NUM),)
            self.assert_good(lone(NEW, places=places))
            self.assert_none(lone(("new", "x", TEXT, ""), places=places))
            self.assert_none(lone(("try", (), (("new", "x", ("num", 2), 1),)), places=places))

    def test_a_shelf_is_made_by_its_own_kind(self):
        self.assert_good(lone(("new", "s", NUM, 1), shelves=(SHELF,)))
        self.assert_none(lone(("new", "s", TEXT, ""), shelves=(SHELF,)))
        self.assert_none(lone(("new", "t", TEXT, ""), ("copy", "s", "t"), shelves=(SHELF,)))
        # A shelf of the other side says nothing of this side's names.
        self.assert_good(lone(("new", "s", TEXT, ""), shelves=(SHELF,), side=1))
        self.assert_none(lone(("new", "s", TEXT, ""), ("new", "s", NUM, 1), shelves=(SHELF,), side=1))

    def test_a_shelf_of_one_name_on_both_sides(self):
        shelves = (SHELF, ("s", 1, TEXT, "a"))
        number, text = ("new", "s", NUM, 1), ("new", "s", TEXT, "")
        self.assert_good(lone(number, shelves=shelves, side=0), lone(text, shelves=shelves, side=1))
        self.assert_none(lone(number, shelves=shelves, side=1), lone(text, shelves=shelves, side=0))

    def test_each_door_has_names_of_its_own(self):
        self.assert_good(program(door("a", 0, (), None, NEW), door("b", 0, (), None, ("new", "x", TEXT, ""))))
        self.assert_none(program(door("a", 0, (), None, NEW), door("b", 0, (), None, ("say", "x"))))
        self.assert_none(program(door("a", 0, (("x", "copy", NUM),), None), door("b", 0, (), None, ("say", "x"))))

    def test_the_order_in_which_statements_are_gone_through(self):
        text = ("new", "x", TEXT, "")
        for one, other in ((NEW, text), (text, NEW)):
            use = ("new", "y", one[2], one[3]), ("same", "x", "y", (), ())
            self.assert_good(lone(("try", (one,), ()), *use))
            self.assert_good(lone(("try", (), (one,)), *use))
            self.assert_none(lone(("try", (one,), (other,))))
            self.assert_none(lone(("try", (one,), ()), other))
            self.assert_none(lone(("try", (), (one,)), other))
            self.assert_none(lone(one, ("try", (other,), ())))
            self.assert_none(lone(one, ("try", (), (other,))))

    def test_names_made_in_one_body_are_known_behind(self):
        say = ("say", "x")
        for statement in (lambda first, second: ("try", first, second), lambda first, second: ("same", "k", "k", first, second)):
            known = ("new", "k", NUM, 1)
            self.assert_good(lone(known, statement((NEW,), (say,))))
            self.assert_good(lone(known, statement((NEW,), ()), say))
            self.assert_good(lone(known, statement((), (NEW,)), say))
            self.assert_good(lone(known, statement((NEW, say), (say,)), say))
            self.assert_none(lone(known, statement((say,), (NEW,))))
            self.assert_none(lone(known, statement((say,), ()), NEW))
            self.assert_none(lone(known, statement((), (say,)), NEW))
            self.assert_good(lone(known, statement((statement((NEW,), ()),), (say,))))
            self.assert_none(lone(known, statement((statement((), (say,)),), (NEW,))))


class KnownNames(RuleCase):

    def test_used_ahead_of_its_making(self):
        pair = ("new", "p", PAIR, (1, "a"))
        row = ("new", "r", ROW, ())
        helper = taker("copy")
        for ahead, statement in (
            (NEW, ("say", "x")), (NEW, ("drop", "x")), (NEW, ("copy", "y", "x")), (pair, ("part", "y", "p", ("n",))),
            (NEW, ("same", "x", "x", (), ())), (NEW, ("call", None, "copy", ("x",))),
        ):
            main = door("main", 0, (), None, ahead, statement)
            self.assert_good(program(main, helper))
            self.assert_none(program(door("main", 0, (), None, statement, ahead), helper))
            self.assert_none(program(door("main", 0, (), None, statement), helper))
        for target, statement in ((pair, ("put", "p", ("n",), "x")), (row, ("add", "r", (), "x"))):
            self.assert_good(lone(NEW, target, statement), lone(target, NEW, statement))
            self.assert_none(lone(NEW, statement, target), lone(target, statement, NEW))
            self.assert_none(lone(NEW, statement), lone(target, statement))
        self.assert_good(lone(NEW, ("back", "x"), result=NUM))
        self.assert_none(lone(("back", "x"), NEW, result=NUM), lone(("back", "x"), result=NUM))

    def test_same_of_names_one_of_which_is_not_known(self):
        self.assert_none(lone(NEW, ("same", "x", "y", (), ())), lone(NEW, ("same", "y", "x", (), ())))
        self.assert_none(lone(NEW, ("same", "x", "y", (("new", "y", NUM, 1),), ())))

    def test_copied_onto_itself(self):
        copied = ("copy", "x", "x")
        self.assert_none(lone(copied), lone(copied, NEW), lone(("try", (), (copied,))))
        self.assert_good(lone(NEW, copied), lone(("try", (NEW,), ()), copied), lone(copied, places=(("x", "copy", NUM),)))
        self.assert_good(lone(("copy", "s", "s"), shelves=(SHELF,)))
        self.assert_none(lone(("copy", "s", "s"), shelves=(SHELF,), side=1))

    def test_part_of_itself(self):
        whole = ("part", "x", "x", ())
        self.assert_none(lone(whole))
        self.assert_good(lone(NEW, whole))
        self.assert_none(lone(("new", "x", PAIR, (1, "a")), ("part", "x", "x", ("n",))))

    def test_a_result_at_a_name_that_is_handed(self):
        double = door("double", 1, (("v", "copy", NUM),), NUM, ("back", "v"))
        call = ("call", "x", "double", ("x",))
        self.assert_good(program(door("main", 0, (), None, NEW, call), double))
        self.assert_none(program(door("main", 0, (), None, call), double))

    def test_places_and_shelves_are_known(self):
        for way in WAYS:
            self.assert_good(lone(("say", "x"), places=(("x", way, NUM),)))
        self.assert_good(lone(("say", "s"), shelves=(SHELF,)))
        self.assert_none(lone(("say", "s"), shelves=(SHELF,), side=1))
        self.assert_none(lone(("say", "s")))

    def test_a_result_is_known(self):
        get = door("get", 1, (), NUM, NEW, ("back", "x"))
        self.assert_good(program(door("main", 0, (), None, ("call", "y", "get", ()), ("say", "y")), get))
        self.assert_none(program(door("main", 0, (), None, ("call", None, "get", ()), ("say", "y")), get))
        self.assert_none(program(door("main", 0, (), None, ("say", "y"), ("call", "y", "get", ())), get))


class Paths(RuleCase):

    def places(self):
        return (("p", "give", PAIR), ("e", "give", EITHER), ("r", "give", ROW), ("g", "give", ROWS), ("n", "give", NUM),
                ("t", "give", TEXT))

    def assert_good_body(self, *body):
        self.assert_good(lone(*body, places=self.places()))

    def assert_no_body(self, *body):
        self.assert_none(lone(*body, places=self.places()))

    def test_part(self):
        for name, path in (("p", ()), ("p", ("n",)), ("e", ("n",)), ("e", ("r",)), ("e", ("r", 59)), ("r", (0,)), ("g", (59, 0)),
                           ("n", ())):
            self.assert_good_body(("part", "x", name, path))
        for name, path in (("p", ("x",)), ("p", (0,)), ("p", ("n", "n")), ("p", ("",)), ("e", ("t",)), ("e", (0,)), ("e", ("n", 0)),
                           ("r", (60,)), ("r", (-1,)), ("r", ("n",)), ("r", (0, 0)), ("g", (0, 60)), ("n", (0,)), ("n", ("n",)),
                           ("t", (0,)), ("r", (10 ** 40,))):
            self.assert_no_body(("part", "x", name, path))

    def test_the_kind_of_a_part(self):
        self.assert_good_body(("part", "x", "p", ("n",)), ("same", "x", "n", (), ()))
        self.assert_no_body(("part", "x", "p", ("n",)), ("same", "x", "t", (), ()))
        self.assert_good_body(("part", "x", "g", (0,)), ("same", "x", "r", (), ()))
        self.assert_good_body(("part", "x", "e", ("r", 3)), ("same", "x", "n", (), ()))

    def test_put(self):
        for path, target, name in (((), "p", "p"), (("n",), "p", "n"), (("t",), "p", "t"), (("n",), "e", "n"), (("r",), "e", "r"),
                                   ((0,), "r", "n"), ((59,), "g", "r"), ((3, 4), "g", "n"), ((), "n", "n")):
            self.assert_good_body(("put", target, path, name))

    def test_put_of_an_unlike_kind(self):
        for path, target, name in (((), "p", "n"), (("n",), "p", "t"), (("t",), "p", "n"), (("n",), "e", "r"), (("r",), "e", "n"),
                                   ((0,), "r", "r"), ((0,), "r", "t"), ((0, 0), "g", "r"), ((), "n", "t"), ((), "r", "n")):
            self.assert_no_body(("put", target, path, name))

    def test_put_where_there_is_no_part(self):
        for path, target, name in ((("x",), "p", "n"), ((60,), "r", "n"), ((-1,), "r", "n"), ((0,), "n", "n"), ((0,), "t", "n"),
                                   (("t",), "e", "n"), (("n", "n"), "p", "n")):
            self.assert_no_body(("put", target, path, name))

    def test_add(self):
        for path, target, name in (((), "r", "n"), ((), "g", "r"), ((0,), "g", "n"), ((59,), "g", "n"), (("r",), "e", "n")):
            self.assert_good_body(("add", target, path, name))
        for path, target, name in (((), "r", "r"), ((), "r", "t"), ((), "g", "n"), ((), "n", "n"), ((), "p", "n"), ((0,), "r", "n"),
                                   (("n",), "e", "n"), (("r", 0), "e", "n"), (("n",), "p", "n"), ((60,), "g", "n"),
                                   (("x",), "e", "n"), ((), "t", "t"), ((), "g", "g")):
            self.assert_no_body(("add", target, path, name))

    def test_add_to_a_row_of_the_deepest_kind(self):
        places = (("a", "give", deep(5)), ("b", "give", deep(4)))
        self.assert_good(lone(("add", "a", (), "b"), places=places))
        self.assert_none(lone(("add", "b", (), "a"), places=places), lone(("add", "a", (), "a"), places=places))

    def test_same_of_unlike_kinds(self):
        self.assert_good_body(("same", "p", "p", (), ()))
        for one, other in (("p", "e"), ("n", "t"), ("r", "g"), ("n", "r")):
            self.assert_no_body(("same", one, other, (), ()))
            self.assert_no_body(("same", other, one, (), ()))

    def test_kinds_are_one_by_the_order_of_fields_too(self):
        turned = ("rec", PAIR[1][::-1])
        self.assert_none(lone(("same", "a", "b", (), ()), places=(("a", "copy", PAIR), ("b", "copy", turned))))
        self.assert_good(lone(("same", "a", "b", (), ()), places=(("a", "copy", PAIR), ("b", "copy", PAIR))))


class Calls(RuleCase):

    def two(self, call, result=None, side=1):
        """A program whose main calls a door with two places."""
        places = (("a", "copy", NUM), ("b", "lend", TEXT))
        return program(door("main", 0, (), None, NEW, ("new", "t", TEXT, "a"), call),
                       door("two", side, places, result, ("fail", 1)))

    def test_a_door_that_is_none(self):
        self.assert_good(self.two(("call", None, "two", ("x", "t"))), self.two(("call", None, "two", ("x", "t")), side=0))
        for name in ("one", "tw", "twos", "a", "x", "z"):
            self.assert_none(self.two(("call", None, name, ("x", "t"))))
        self.assert_none(lone(("call", None, "two", ())))

    def test_its_own_door_and_doors_behind(self):
        self.assert_good(lone(("call", None, "main", ())))
        self.assert_good(lone(NEW, ("call", None, "main", ("x",)), places=(("y", "copy", NUM),)))
        self.assert_good(program(door("a", 0, (), None, ("call", None, "b", ())), door("b", 1, (), None, ("call", None, "a", ()))))

    def test_names_too_few_or_too_many(self):
        for names in ((), ("x",), ("t",), ("x", "t", "x"), ("x", "t", "t")):
            self.assert_none(self.two(("call", None, "two", names)))
        self.assert_none(lone(NEW, ("call", None, "main", ("x",))))

    def test_names_of_an_unlike_kind_or_not_known(self):
        for names in (("t", "x"), ("x", "x"), ("t", "t"), ("y", "t"), ("x", "y")):
            self.assert_none(self.two(("call", None, "two", names)))

    def test_a_result(self):
        for result in (None, NUM, TEXT):
            self.assert_good(self.two(("call", None, "two", ("x", "t")), result))
        self.assert_none(self.two(("call", "y", "two", ("x", "t"))))
        self.assert_none(self.two(("call", "x", "two", ("x", "t"))))
        self.assert_good(self.two(("call", "y", "two", ("x", "t")), NUM), self.two(("call", "x", "two", ("x", "t")), NUM))
        self.assert_good(self.two(("call", "t", "two", ("x", "t")), TEXT))
        self.assert_none(self.two(("call", "x", "two", ("x", "t")), TEXT), self.two(("call", "t", "two", ("x", "t")), NUM))

    def test_one_name_handed_twice(self):
        for one in WAYS:
            for other in WAYS:
                both = door("both", 1, (("a", one, NUM), ("b", other, NUM)), None)
                self.assert_good(program(door("main", 0, (), None, NEW, ("call", None, "both", ("x", "x"))), both))


class Back(RuleCase):

    def test_without_a_result(self):
        self.assert_none(lone(NEW, ("back", "x")))
        self.assert_good(lone(NEW, ("back", "x"), result=NUM))

    def test_of_an_unlike_kind(self):
        self.assert_none(lone(NEW, ("back", "x"), result=TEXT), lone(NEW, ("back", "x"), result=("num", 2)))
        self.assert_none(lone(NEW, ("back", "x"), result=ROW))

    def test_anywhere(self):
        self.assert_good(lone(NEW, ("back", "x"), ("say", "x"), ("back", "x"), result=NUM))
        self.assert_good(lone(NEW, ("try", (("back", "x"),), (("back", "x"),)), result=NUM))
        self.assert_none(lone(NEW, ("try", (), (("back", "x"),))))

    def test_a_result_need_not_be_given_back(self):
        self.assert_good(lone(result=NUM), lone(NEW, result=TEXT))

    def test_shelves_and_places(self):
        self.assert_good(lone(("back", "s"), result=NUM, shelves=(SHELF,)))
        for way in ("copy", "give"):
            self.assert_good(lone(("back", "x"), result=NUM, places=(("x", way, NUM),)))


class Bans(RuleCase):
    """What is not done to the names of places, by their ways."""

    def doors(self, way, statement, kind=NUM):
        """A program whose main has the place x of this way, and doors for handing on and for results."""
        main = door("main", 0, (("x", way, kind), ("n", "give", NUM), ("k", "give", kind)), kind, statement)
        helpers = [taker(other, kind) for other in WAYS]
        return program(main, door("get", 1, (), kind, ("fail", 0)), *helpers)

    def test_made(self):
        for statement in (("new", "x", NUM, 1), ("copy", "x", "n"), ("copy", "x", "x"), ("part", "x", "n", ()),
                          ("call", "x", "get", ())):
            for around in (lambda one: one, lambda one: ("try", (), (one,)), lambda one: ("same", "x", "x", (one,), ())):
                for way in ("copy", "give"):
                    self.assert_good(self.doors(way, around(statement)))
                for way in ("lend", "lease"):
                    self.assert_none(self.doors(way, around(statement)))

    def test_changed(self):
        for statement in (("put", "x", (), "k"), ("put", "x", (0,), "n"), ("add", "x", (), "n"), ("put", "x", (), "x")):
            for way in ("copy", "give", "lease"):
                self.assert_good(self.doors(way, statement, ROW))
            self.assert_none(self.doors("lend", statement, ROW))

    def test_dropped_and_given_back(self):
        for statement in (("drop", "x"), ("back", "x")):
            for way in ("copy", "give"):
                self.assert_good(self.doors(way, statement))
            for way in ("lend", "lease"):
                self.assert_none(self.doors(way, statement))

    def test_handed_on(self):
        allowed = {"copy": WAYS, "give": WAYS, "lend": ("copy", "lend"), "lease": ("copy", "lend", "lease")}
        for way in WAYS:
            for other in WAYS:
                name = "take" if other == "give" else other
                thing = self.doors(way, ("call", None, name, ("x",)))
                (self.assert_good if other in allowed[way] else self.assert_none)(thing)
                # What other places of the door have is not barred.
                self.assert_good(self.doors(way, ("call", None, name, ("n",))))

    def test_handed_on_to_its_own_door(self):
        for way in WAYS:
            self.assert_good(lone(("call", None, "main", ("x",)), places=(("x", way, NUM),)))

    def test_allowed_for_all(self):
        for statement in (("say", "x"), ("copy", "y", "x"), ("part", "y", "x", ()), ("same", "x", "k", (), ()),
                          ("put", "k", (), "x"), ("put", "k", (), "n"), ("call", "y", "get", ()), ("call", None, "copy", ("x",))):
            for way in WAYS:
                self.assert_good(self.doors(way, statement))
        for way in WAYS:
            self.assert_good(lone(("add", "r", (), "x"), places=(("x", way, NUM), ("r", "give", ROW))))

    def test_second_names_of_call(self):
        both = door("both", 1, (("a", "copy", NUM), ("b", "give", NUM)), None)
        for way, good in (("copy", True), ("give", True), ("lend", False), ("lease", False)):
            main = door("main", 0, (("x", way, NUM), ("n", "give", NUM)), None, ("call", None, "both", ("n", "x")))
            (self.assert_good if good else self.assert_none)(program(main, both))

    def test_names_of_other_doors_places_are_free(self):
        bound = door("bound", 0, (("x", "lend", NUM),), None)
        self.assert_good(program(bound, door("main", 0, (), NUM, NEW, ("put", "x", (), "x"), ("drop", "x"), NEW, ("back", "x"))))

    def test_shelves_are_free(self):
        helpers = [taker(way) for way in WAYS]
        for statement in (("new", "s", NUM, 1), ("put", "s", (), "s"), ("drop", "s"), ("back", "s"), ("copy", "s", "s"),
                          ("call", None, "take", ("s",)), ("call", None, "lease", ("s",)), ("call", None, "lend", ("s",))):
            self.assert_good(program(door("main", 0, (), NUM, statement), *helpers, shelves=(SHELF,)))


if __name__ == "__main__":
    unittest.main()
