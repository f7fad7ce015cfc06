"""Runs [29] to [34]: statements, looks, faults and tries, steps, shelves, refusals."""

import unittest

from running import HERE, PAIRS, THERE, RunCase
from samples import NUM, TEXT, Awkward, anything
from sketches import EITHER, PAIR, ROWS, door, lone, program
from things import ROW
from tonguegate.errors import NoDoor, NoProgram, NoWorths
from tonguegate.gate import run_glued
from tonguegate.runs import run_plain

ONE = ("new", "x", NUM, 1)
TWO = ("new", "y", NUM, 2)
DONE = ("done",)
SHELF = ("s", 0, NUM, 5)


def fault(*parts):
    return ("fault", parts)


def holder(way, kind=NUM, *body):
    """A door of side 1 that is lent or leased a thing, and does this."""
    return door("hold", 1, (("v", way, kind),), None, *body)


class Statements(RunCase):
    """Each statement, with its rows in the book."""

    def test_nothing_to_do(self):
        self.assertEqual(self.run_all(lone()), ([], DONE, [], []))
        self.assertEqual(self.run_all(lone(side=1)), ([], DONE, [], []))

    def test_new(self):
        self.assert_end(lone(ONE), DONE, book=[("make", 0, 0), ("drop", 0)])
        self.assert_end(lone(ONE, side=1), DONE, book=[("make", 1, 0), ("drop", 0)])
        self.assert_end(lone(ONE, TWO, ONE, ("say", "x")), DONE, said=[1], book=[
            ("make", 0, 0), ("make", 0, 1), ("make", 0, 2), ("drop", 0), ("read", 0, 2), ("drop", 2), ("drop", 1)])

    def test_copy(self):
        self.assert_end(lone(ONE, ("copy", "y", "x"), ("say", "y")), DONE, said=[1], book=[
            ("make", 0, 0), ("share", 0, 1), ("read", 0, 1), ("drop", 0), ("drop", 1)])
        self.assert_end(lone(ONE, TWO, ("copy", "y", "x"), ("say", "y"), ("say", "x")), DONE, said=[1, 1], book=[
            ("make", 0, 0), ("make", 0, 1), ("share", 0, 2), ("drop", 1), ("read", 0, 2), ("read", 0, 0), ("drop", 0), ("drop", 2)])

    def test_copied_onto_itself(self):
        self.assert_end(lone(ONE, ("copy", "x", "x"), ("say", "x")), DONE, said=[1], book=[
            ("make", 0, 0), ("share", 0, 1), ("drop", 0), ("read", 0, 1), ("drop", 1)])

    def test_a_copy_is_another_thing(self):
        self.assert_end(lone(("new", "r", ROW, (1,)), ("copy", "q", "r"), ONE, TWO, ("add", "q", (), "x"), ("put", "r", (0,), "y"),
                             ("say", "r"), ("say", "q")), DONE, said=[(2,), (1, 1)])

    def test_part(self):
        self.assert_end(lone(("new", "p", PAIR, (7, "a")), ("part", "n", "p", ("n",)), ("part", "t", "p", ("t",)),
                             ("part", "n", "p", ("n",)), ("say", "n"), ("say", "t")), DONE, said=[7, "a"], book=[
            ("make", 0, 0), ("part", 0, 0), ("make", 0, 1), ("part", 0, 0), ("make", 0, 2), ("part", 0, 0), ("make", 0, 3),
            ("drop", 1), ("read", 0, 3), ("read", 0, 2), ("drop", 3), ("drop", 0), ("drop", 2)])

    def test_part_of_itself(self):
        self.assert_end(lone(ONE, ("part", "x", "x", ()), ("say", "x")), DONE, said=[1], book=[
            ("make", 0, 0), ("part", 0, 0), ("make", 0, 1), ("drop", 0), ("read", 0, 1), ("drop", 1)])

    def test_part_that_is_not_there(self):
        self.assert_end(lone(("new", "r", ROW, (1,)), ("part", "x", "r", (1,))), fault("nopart"),
                        book=[("make", 0, 0), ("drop", 0)])
        self.assert_end(lone(("new", "e", EITHER, ("n", 1)), ONE, ("part", "x", "e", ("r", 0))), fault("nopart"),
                        book=[("make", 0, 0), ("make", 0, 1), ("drop", 0), ("drop", 1)])

    def test_put(self):
        self.assert_end(lone(("new", "p", PAIR, (7, "a")), ONE, ("put", "p", ("n",), "x"), ("say", "p")), DONE, said=[(1, "a")], book=[
            ("make", 0, 0), ("make", 0, 1), ("read", 0, 1), ("put", 0, 0), ("read", 0, 0), ("drop", 0), ("drop", 1)])
        self.assert_end(lone(("new", "e", EITHER, ("r", (1,))), ONE, ("put", "e", ("n",), "x"), ("say", "e")), DONE, said=[("n", 1)])

    def test_put_of_itself_into_itself(self):
        self.assert_end(lone(ONE, ("put", "x", (), "x"), ("say", "x")), DONE, said=[1], book=[
            ("make", 0, 0), ("read", 0, 0), ("put", 0, 0), ("read", 0, 0), ("drop", 0)])
        self.assert_end(lone(("new", "r", ROWS, ((1,),)), ("part", "q", "r", (0,)), ("add", "r", (), "q"), ("say", "r")), DONE,
                        said=[((1,), (1,))])

    def test_put_where_there_is_no_part(self):
        self.assert_end(lone(("new", "r", ROW, (1,)), ONE, ("put", "r", (1,), "x")), fault("nopart"), book=[
            ("make", 0, 0), ("make", 0, 1), ("read", 0, 1), ("drop", 0), ("drop", 1)])

    def test_add(self):
        self.assert_end(lone(("new", "r", ROW, ()), ONE, ("add", "r", (), "x"), ("add", "r", (), "x"), ("say", "r")), DONE,
                        said=[(1, 1)], book=[
            ("make", 0, 0), ("make", 0, 1), ("read", 0, 1), ("grow", 0, 0), ("read", 0, 1), ("grow", 0, 0), ("read", 0, 0),
            ("drop", 0), ("drop", 1)])

    def test_add_to_a_full_row(self):
        self.assert_end(lone(("new", "r", ROW, (2,) * 59), ONE, ("add", "r", (), "x"), ("say", "r"), ("add", "r", (), "x")),
                        fault("full"), said=[(2,) * 59 + (1,)], book=[
            ("make", 0, 0), ("make", 0, 1), ("read", 0, 1), ("grow", 0, 0), ("read", 0, 0), ("read", 0, 1), ("drop", 0), ("drop", 1)])

    def test_add_where_there_is_no_row(self):
        self.assert_end(lone(("new", "e", EITHER, ("n", 1)), ONE, ("add", "e", ("r",), "x")), fault("nopart"))
        self.assert_end(lone(("new", "r", ROWS, ()), ONE, ("add", "r", (0,), "x")), fault("nopart"))

    def test_drop(self):
        self.assert_end(lone(ONE, ("drop", "x"), TWO), DONE, book=[("make", 0, 0), ("drop", 0), ("make", 0, 1), ("drop", 1)])
        self.assert_end(lone(ONE, ("drop", "x"), ONE, ("say", "x")), DONE, said=[1], book=[
            ("make", 0, 0), ("drop", 0), ("make", 0, 1), ("read", 0, 1), ("drop", 1)])

    def test_say(self):
        told = self.run_all(lone(ONE, ("say", "x"), ("say", "x")))
        self.assertEqual(told[0], [(0, 1), (0, 1)])
        self.assertEqual(self.run_all(lone(ONE, ("say", "x"), side=1))[0], [(1, 1)])

    def test_same(self):
        bodies = (("say", "x"), TWO, ("say", "y")), (("new", "t", TEXT, "no"), ("say", "t"))
        self.assert_end(lone(ONE, ("new", "z", NUM, 1), ("same", "x", "z") + bodies), DONE, said=[1, 2], book=[
            ("make", 0, 0), ("make", 0, 1), ("read", 0, 0), ("read", 0, 1), ("read", 0, 0), ("make", 0, 2), ("read", 0, 2),
            ("drop", 0), ("drop", 2), ("drop", 1)])
        self.assert_end(lone(ONE, ("new", "z", NUM, 3), ("same", "x", "z") + bodies), DONE, said=["no"])
        self.assert_end(lone(ONE, ("same", "x", "x") + bodies), DONE, said=[1, 2], book=[
            ("make", 0, 0), ("read", 0, 0), ("read", 0, 0), ("read", 0, 0), ("make", 0, 1), ("read", 0, 1), ("drop", 0), ("drop", 1)])

    def test_same_of_greater_worths(self):
        for one, other, said in (((1, 2), (1, 2), 1), ((1, 2), (2, 1), 2), ((), (0,), 2), ((), (), 1)):
            self.assert_end(lone(("new", "a", ROW, one), ("new", "b", ROW, other), ONE, TWO,
                                 ("same", "a", "b", (("say", "x"),), (("say", "y"),))), DONE, said=[said])

    def test_fail(self):
        for number in (0, 7, 999):
            self.assert_end(lone(("fail", number), ONE), fault("fail", number), said=[], book=[])

    def test_back(self):
        self.assert_end(lone(ONE, TWO, ("back", "x"), ("say", "y"), result=NUM), ("back", 1), said=[], book=[
            ("make", 0, 0), ("make", 0, 1), ("drop", 1), ("read", 1, 0), ("drop", 0)])

    def test_back_out_of_bodies_within(self):
        for body in ((("try", (("back", "x"), ("say", "y")), (("say", "y"),)), ("say", "y")),
                     (("try", (("fail", 1),), (("back", "x"), ("say", "y"))), ("say", "y")),
                     (("same", "x", "x", (("try", (("back", "x"),), ()), ("say", "y")), ()), ("say", "y"))):
            self.assert_end(lone(ONE, TWO, *body, result=NUM), ("back", 1), said=[])

    def test_no_back(self):
        self.assert_end(lone(result=NUM), fault("noback"), book=[])
        self.assert_end(lone(ONE, ("say", "x"), result=NUM), fault("noback"), said=[1], book=[
            ("make", 0, 0), ("read", 0, 0), ("drop", 0)])
        self.assert_end(lone(ONE, ("same", "x", "x", (), (("back", "x"),)), result=NUM), fault("noback"))

    def test_a_body_lets_go_in_the_order_of_names(self):
        body = [("new", name, NUM, at) for at, name in enumerate(("b", "ab", "a", "c", "ba", "aa"))]
        self.assert_end(lone(*body), DONE, book=[("make", 0, at) for at in range(6)] +
                        [("drop", at) for at in (2, 5, 1, 0, 4, 3)])


class Looks(RunCase):
    """The fault of each look, and the order of the looks where two are due."""

    def test_gone(self):
        gone = (ONE, ("drop", "x"), TWO, ("new", "r", ROW, ()))
        helpers = [door("c" + way, 1, (("v", way, NUM),), None) for way in ("copy", "give", "lend", "lease")]
        for statement in (("copy", "y", "x"), ("copy", "x", "x"), ("part", "y", "x", ()), ("put", "y", (), "x"), ("put", "x", (), "y"),
                          ("add", "r", (), "x"), ("drop", "x"), ("say", "x"), ("same", "x", "y", (), ()), ("same", "y", "x", (), ()),
                          ("call", None, "ccopy", ("x",)), ("call", None, "cgive", ("x",)), ("call", None, "clend", ("x",)),
                          ("call", None, "clease", ("x",)), ("back", "x")):
            whole = program(door("main", 0, (), NUM, *gone, statement, ("say", "y")), *helpers)
            self.assert_end(whole, fault("gone", "x"), said=[], book=[
                ("make", 0, 0), ("drop", 0), ("make", 0, 1), ("make", 0, 2), ("drop", 2), ("drop", 1)])

    def test_gone_as_it_was_never_made(self):
        for made in (("try", (("fail", 1), ONE), ()), ("try", (), (ONE,))):
            self.assert_end(lone(made, ("say", "x")), fault("gone", "x"))

    def test_gone_of_the_target_of_add(self):
        self.assert_end(lone(("new", "r", ROW, ()), ONE, ("drop", "r"), ("add", "r", (), "x")), fault("gone", "r"))

    def test_the_order_of_the_looks(self):
        start = (ONE, TWO, ("new", "r", ROW, ()), ("drop", "x"), ("drop", "y"), ("drop", "r"))
        for statement, name in ((("put", "y", (), "x"), "x"), (("put", "x", (), "y"), "y"), (("add", "r", (), "x"), "x"),
                                (("same", "x", "y", (), ()), "x"), (("same", "y", "x", (), ()), "y"), (("copy", "y", "x"), "x"),
                                (("part", "x", "y", ()), "y")):
            self.assert_end(lone(*start, statement), fault("gone", name))

    def held(self, way, *body, kind=NUM, worth=5):
        """A program that lends or leases a shelf, and does this on its side while it is so."""
        inner = door("inner", 0, (), kind, ("new", "x", NUM, 1), ("new", "k", kind, worth), *body)
        return program(door("main", 0, (), None, ("call", None, "hold", ("s",))),
                       holder(way, kind, ("call", None, "inner", ())), inner,
                       door("get", 1, (), kind, ("new", "g", kind, worth), ("back", "g")),
                       *[door("c" + other, 1, (("v", other, kind),), None, ("say", "v")) for other in
                         ("copy", "give", "lend", "lease")],
                       shelves=(("s", 0, kind, worth),))

    def test_lent(self):
        back = ("back", "k")
        for statement in (("say", "s"), ("copy", "z", "s"), ("part", "z", "s", ()), ("put", "k", (), "s"), ("same", "s", "s", (), ()),
                          ("call", None, "ccopy", ("s",)), ("call", None, "clend", ("s",))):
            self.assert_end(self.held("lend", statement, back), DONE, shelves=[5])
        for statement in (("put", "s", (), "k"), ("drop", "s"), ("new", "s", NUM, 7), ("copy", "s", "k"), ("part", "s", "k", ()),
                          ("copy", "s", "s"), ("call", None, "cgive", ("s",)), ("call", None, "clease", ("s",)),
                          ("call", "s", "get", ()), ("back", "s"), ("put", "s", (), "s")):
            self.assert_end(self.held("lend", statement, back), fault("held", "s"), shelves=[5])
        self.assert_end(self.held("lend", ("add", "s", (), "x"), back, kind=ROW, worth=()), fault("held", "s"), shelves=[()])
        self.assert_end(self.held("lend", ("add", "k", (), "x"), back, kind=ROW, worth=()), DONE, shelves=[()])

    def test_leased(self):
        back = ("back", "k")
        for statement in (("say", "s"), ("copy", "z", "s"), ("part", "z", "s", ()), ("put", "k", (), "s"), ("same", "s", "k", (), ()),
                          ("same", "k", "s", (), ()), ("call", None, "ccopy", ("s",)), ("call", None, "clend", ("s",)),
                          ("put", "s", (), "k"), ("drop", "s"), ("new", "s", NUM, 7), ("copy", "s", "k"), ("part", "s", "k", ()),
                          ("call", None, "cgive", ("s",)), ("call", None, "clease", ("s",)), ("call", "s", "get", ()),
                          ("back", "s")):
            self.assert_end(self.held("lease", statement, back), fault("held", "s"), shelves=[5])

    def test_reading_is_looked_at_ahead_of_placing_and_changing(self):
        for statement in (("copy", "s", "z"), ("part", "s", "z", ()), ("put", "s", (), "z")):
            for way in ("lend", "lease"):
                self.assert_end(self.held(way, ("copy", "z", "k"), ("drop", "z"), statement), fault("gone", "z"))
        for statement in (("same", "s", "z", (), ()), ("put", "z", (), "s")):
            self.assert_end(self.held("lease", ("copy", "z", "k"), ("drop", "z"), statement), fault("held", "s"))
            self.assert_end(self.held("lend", ("copy", "z", "k"), ("drop", "z"), statement), fault("gone", "z"))

    def test_a_look_goes_ahead_of_every_deed(self):
        whole = self.held("lend", ("put", "s", (), "k"))
        book = run_plain(whole, "main", [], 100)[3]
        self.assertEqual([row for row in book if row[0] in ("read", "put")], [("read", 0, 0)])
        whole = self.held("lend", ("new", "s", NUM, 7))
        self.assertEqual(len([row for row in run_plain(whole, "main", [], 100)[3] if row[0] == "make"]), 3)

    def test_held_no_longer_behind_the_call(self):
        for way in ("lend", "lease"):
            for inner in ((), (("fail", 1),)):
                self.assert_end(program(
                    door("main", 0, (), None, ONE, ("try", (("call", None, "hold", ("x",)),), ()), TWO, ("put", "x", (), "y"),
                         ("say", "x"), ("drop", "x"), ("new", "x", NUM, 3), ("say", "x")),
                    holder(way, NUM, *inner)), DONE, said=[2, 3])

    def test_gone_shelf(self):
        for body in (("drop", "s"), ("call", None, "get", ("s",))):
            whole = program(door("main", 0, (), None, body, ("say", "s")), door("get", 1, (("v", "give", NUM),), None), shelves=(SHELF,))
            self.assert_end(whole, fault("gone", "s"), shelves=[None])


class Tries(RunCase):

    def words(self, *texts):
        return tuple(one for text in texts for one in (("new", "w", TEXT, text), ("say", "w")))

    def test_held_up(self):
        self.assert_end(lone(("try", (*self.words("a"), ("fail", 1), *self.words("b")), self.words("c")), *self.words("d")), DONE,
                        said=["a", "c", "d"])

    def test_no_fault(self):
        self.assert_end(lone(("try", self.words("a"), self.words("b")), *self.words("c")), DONE, said=["a", "c"])
        self.assert_end(lone(("try", (), self.words("b")), *self.words("c")), DONE, said=["c"])

    def test_a_fault_in_the_second_body_goes_on(self):
        self.assert_end(lone(("try", (("fail", 1),), (*self.words("a"), ("fail", 2))), *self.words("b")), fault("fail", 2), said=["a"])

    def test_tries_within_tries(self):
        inner = ("try", (("fail", 1),), (*self.words("a"), ("fail", 2), *self.words("b")))
        self.assert_end(lone(("try", (inner, *self.words("c")), self.words("d")), *self.words("e")), DONE, said=["a", "d", "e"])
        held = ("try", (("fail", 1),), self.words("a"))
        self.assert_end(lone(("try", (held, *self.words("c")), self.words("d")), *self.words("e")), DONE, said=["a", "c", "e"])
        self.assert_end(lone(("try", (("fail", 1),), (held, ("try", (("fail", 3),), (("fail", 4),)))), *self.words("e")),
                        fault("fail", 4), said=["a"])

    def test_out_of_the_bodies_of_same(self):
        same = ("same", "x", "x", (("fail", 1), *self.words("a")), ())
        self.assert_end(lone(ONE, ("try", (same, *self.words("b")), self.words("c"))), DONE, said=["c"])
        self.assert_end(lone(ONE, same, *self.words("b")), fault("fail", 1), said=[])

    def test_what_was_done_stays_done(self):
        self.assert_end(lone(ONE, TWO, ("try", (("put", "x", (), "y"), ("drop", "y"), ("say", "y")), ()), ("say", "x")), DONE, said=[2])
        self.assert_end(lone(("try", (ONE, ("fail", 1)), ()), ("say", "x")), DONE, said=[1])

    def test_each_fault_is_held_up(self):
        faults = (("say", "z"), ("part", "v", "r", (5,)), ("add", "f", (), "x"), ("fail", 3), ("call", None, "lack", ()),
                  ("call", None, "main", ()))
        for statement in faults:
            body = (ONE, ("new", "z", NUM, 1), ("drop", "z"), ("new", "r", ROW, ()), ("new", "f", ROW, (1,) * 60))
            whole = program(door("main", 0, (), None, *body, ("try", (statement, ("fail", 9)), self.words("held up"))),
                            door("lack", 1, (), NUM))
            plain = self.run_all(whole)
            self.assertEqual(plain[1], DONE)
            self.assertEqual(plain[0][0], (0, "held up"))

    def test_the_fault_of_a_called_door(self):
        helper = door("help", 1, (), None, *self.words("a"), ("fail", 5))
        self.assert_end(program(door("main", 0, (), None, ("call", None, "help", ()), *self.words("b")), helper), fault("fail", 5),
                        said=["a"])
        self.assert_end(program(door("main", 0, (), None, ("try", (("call", None, "help", ()),), self.words("c")), *self.words("b")),
                                helper), DONE, said=["a", "c", "b"])


class Steps(RunCase):

    def whole(self):
        """A program of 12 steps that come to begin."""
        return program(
            door("main", 0, (), NUM, ONE, ("try", (("say", "x"), ("call", None, "help", ("x",)), ("fail", 1)), (("say", "x"),)),
                 ("same", "x", "x", (("say", "x"),), (("fail", 2),)), ("back", "x"), ("say", "x")),
            door("help", 1, (("v", "copy", NUM),), None, ("say", "v"), ("try", (), (("fail", 3),)), ("drop", "v")))

    def test_each_number_of_steps(self):
        for steps, said in ((0, 0), (1, 0), (2, 0), (3, 1), (4, 1), (5, 2), (6, 2), (7, 2), (8, 2), (9, 3), (10, 3), (11, 4)):
            plain = self.run_all(self.whole(), "main", [], steps)
            self.assertEqual(plain[1], ("stopped",), steps)
            self.assertEqual(len(plain[0]), said, steps)
            self.assert_all_dropped(plain[3])
        for steps in (12, 13, 100, 10 ** 40):
            plain = self.run_all(self.whole(), "main", [], steps)
            self.assertEqual(plain[1], ("back", 1), steps)
            self.assertEqual(plain[0], [(0, 1), (1, 1), (0, 1), (0, 1)])

    def test_no_steps(self):
        self.assert_end(lone(), DONE, "main", (), 0)
        self.assert_end(lone(result=NUM), fault("noback"), "main", (), 0)
        self.assert_end(lone(ONE), ("stopped",), "main", (), 0, book=[])
        self.assert_end(lone(ONE, shelves=(SHELF,), places=(("a", "give", NUM),)), ("stopped",), "main", [7], 0, shelves=[5], book=[
            ("make", 0, 0), ("make", 1, 1), ("drop", 1), ("read", 0, 0), ("drop", 0)])

    def test_no_try_holds_the_stop_up(self):
        whole = lone(("try", (("try", (ONE, TWO), (ONE,)), ("fail", 1)), (("fail", 2),)))
        self.assert_end(whole, ("stopped",), "main", (), 3)
        self.assert_end(whole, ("stopped",), "main", (), 2)
        self.assert_end(whole, fault("fail", 2), "main", (), 6)
        self.assert_end(whole, ("stopped",), "main", (), 5)

    def test_a_stop_lets_go_as_a_fault_does(self):
        whole = program(
            door("main", 0, (), None, ("new", "b", NUM, 1), ("new", "a", NUM, 2), ("new", "c", NUM, 3),
                 ("try", (("call", "d", "help", ("a", "b", "c")),), (("say", "a"),))),
            door("help", 1, (("z", "copy", NUM), ("y", "give", NUM), ("x", "lease", NUM)), NUM, ("new", "w", NUM, 4), ("say", "w"),
                 ("say", "x")))
        self.assert_end(whole, ("stopped",), "main", (), 7, said=[4], book=[
            ("make", 0, 0), ("make", 0, 1), ("make", 0, 2), ("share", 1, 3), ("make", 1, 4), ("read", 1, 4), ("drop", 4),
            ("drop", 0), ("drop", 3), ("drop", 1), ("drop", 2)])

    def test_the_statement_at_which_steps_end_is_done(self):
        self.assert_end(lone(ONE, ("say", "x")), DONE, "main", (), 2, said=[1])
        self.assert_end(lone(ONE, ("say", "x"), ("say", "x")), ("stopped",), "main", (), 2, said=[1])


class Outside(RunCase):
    """The run from the shelves' making to their letting go."""

    def test_the_other_side_makes_the_worths(self):
        for side in (0, 1):
            whole = lone(("say", "b"), places=(("b", "copy", NUM), ("a", "give", NUM), ("d", "lend", NUM), ("c", "lease", NUM)), side=side)
            self.assert_end(whole, DONE, "main", [1, 2, 3, 4], said=[1], book=[
                ("make", 1 - side, 0), ("make", 1 - side, 1), ("make", 1 - side, 2), ("make", 1 - side, 3), ("share", 0, 4),
                ("read", side, 4), ("drop", 1), ("drop", 4), ("drop", 0), ("drop", 3), ("drop", 2)])

    def test_the_result_is_read_by_the_other_side(self):
        for side in (0, 1):
            whole = lone(("back", "a"), places=(("a", "give", TEXT),), result=TEXT, side=side)
            self.assert_end(whole, ("back", "hi"), "main", ["hi"], book=[("make", 1 - side, 0), ("read", 1 - side, 0), ("drop", 0)])
            whole = lone(("back", "a"), places=(("a", "copy", TEXT), ("b", "lend", TEXT)), result=TEXT, side=side)
            self.assert_end(whole, ("back", "hi"), "main", ["hi", "x"], book=[
                ("make", 1 - side, 0), ("make", 1 - side, 1), ("share", 0, 2), ("read", 1 - side, 2), ("drop", 2), ("drop", 0),
                ("drop", 1)])

    def test_leased_from_outside(self):
        self.assert_end(lone(ONE, ("add", "r", (), "x"), ("say", "r"), places=(("r", "lease", ROW),)), DONE, "main", [(5,)], said=[(5, 1)],
                        book=[("make", 1, 0), ("make", 0, 1), ("read", 0, 1), ("grow", 0, 0), ("read", 0, 0), ("drop", 1), ("drop", 0)])

    def test_shelves(self):
        shelves = (("b", 1, NUM, 1), ("a", 0, TEXT, "two"), ("b", 0, ROW, (3,)))
        plain = self.run_all(lone(shelves=shelves))
        self.assertEqual(plain[2], [("b", 1, 1), ("a", 0, "two"), ("b", 0, (3,))])
        self.assertEqual(plain[3], [("make", 1, 0), ("make", 0, 1), ("make", 0, 2), ("read", 1, 0), ("drop", 0), ("read", 0, 1),
                                    ("drop", 1), ("read", 0, 2), ("drop", 2)])

    def test_shelves_changed_and_placed_anew(self):
        shelves = (("s", 0, NUM, 5), ("t", 0, NUM, 6), ("u", 0, NUM, 7), ("s", 1, NUM, 8))
        plain = self.run_all(lone(ONE, ("put", "s", (), "x"), ("drop", "t"), ("new", "u", NUM, 9), shelves=shelves))
        self.assertEqual(plain[2], [("s", 0, 1), ("t", 0, None), ("u", 0, 9), ("s", 1, 8)])
        plain = self.run_all(lone(("drop", "t"), ("copy", "t", "u"), ("part", "u", "s", ()), shelves=shelves))
        self.assertEqual(plain[2], [("s", 0, 5), ("t", 0, 7), ("u", 0, 5), ("s", 1, 8)])

    def test_shelves_are_those_of_the_bodys_side(self):
        shelves = (("s", 0, TEXT, "here"), ("s", 1, TEXT, "there"))
        whole = program(door("main", 0, (), None, ("say", "s"), ("call", None, "other", ()), ("say", "s")),
                        door("other", 1, (), None, ("say", "s"), ("new", "s", TEXT, "new"), ("say", "s"), ("call", None, "back", ())),
                        door("back", 0, (), None, ("say", "s")), shelves=shelves)
        plain = self.run_all(whole)
        self.assertEqual(plain[0], [(0, "here"), (1, "there"), (1, "new"), (0, "here"), (0, "here")])
        self.assertEqual(plain[2], [("s", 0, "here"), ("s", 1, "new")])

    def test_shelves_are_one_for_all_bodies_of_a_side(self):
        whole = program(door("main", 0, (), None, ("call", None, "help", ()), ("say", "s")),
                        door("help", 0, (), None, ("new", "s", NUM, 9), ("drop", "s"), ("new", "s", NUM, 10)), shelves=(SHELF,))
        self.assert_end(whole, DONE, said=[10], shelves=[10])

    def test_shelves_are_not_let_go_with_a_body(self):
        whole = program(door("main", 0, (), None, ("call", None, "help", ()), ("call", None, "help", ())),
                        door("help", 0, (), None, ("say", "s")), shelves=(SHELF,))
        self.assert_end(whole, DONE, said=[5, 5], shelves=[5], book=[
            ("make", 0, 0), ("read", 0, 0), ("read", 0, 0), ("read", 0, 0), ("drop", 0)])

    def test_a_place_with_the_name_of_a_shelf_of_the_side_outside(self):
        for way in ("copy", "give", "lend", "lease"):
            whole = lone(("say", "s"), places=(("s", way, NUM),), shelves=(("s", 1, NUM, 5),))
            self.assert_end(whole, DONE, "main", [7], said=[7], shelves=[5])

    def test_a_shelf_given_back(self):
        self.assert_end(lone(("back", "s"), result=NUM, shelves=(SHELF,)), ("back", 5), shelves=[None], book=[
            ("make", 0, 0), ("read", 1, 0), ("drop", 0)])

    def test_shelves_behind_a_fault_and_a_stop(self):
        whole = lone(("new", "s", NUM, 6), ("fail", 1), shelves=(SHELF,))
        self.assert_end(whole, fault("fail", 1), shelves=[6])
        self.assert_end(whole, ("stopped",), "main", (), 1, shelves=[6])
        self.assert_end(whole, ("stopped",), "main", (), 0, shelves=[5])

    def test_each_door_of_a_program(self):
        whole = program(door("a", 0, (), NUM, ONE, ("back", "x")), door("b", 1, (("v", "copy", NUM),), None, ("say", "v")))
        self.assertEqual(self.run_all(whole, "a")[1], ("back", 1))
        self.assertEqual(self.run_all(whole, "b", [3])[:2], ([(1, 3)], DONE))

    def test_the_forms_of_what_is_told(self):
        whole = lone(ONE, ("say", "x"), shelves=(SHELF,))
        for told in (run_plain(whole, "main", [], 9), run_glued(whole, (HERE, THERE), "main", [], 9)):
            self.assertIs(type(told), tuple)
            self.assertIs(type(told[1]), tuple)
            for rows in told[:1] + told[2:]:
                self.assertIs(type(rows), list)
                for row in rows:
                    self.assertIs(type(row), tuple)

    def test_told_lists_are_the_askers_own(self):
        whole = lone(ONE, ("say", "x"), shelves=(SHELF,), places=(("a", "copy", NUM),))
        worths = [4]
        for asked in (lambda: run_plain(whole, "main", worths, 9), lambda: run_glued(whole, (HERE, THERE), "main", worths, 9)):
            told, again = asked(), asked()
            self.assertEqual(told, again)
            for rows in told[:1] + told[2:]:
                rows.clear()
            self.assertEqual(asked(), again)
            self.assertEqual(worths, [4])


class Refused(RunCase):

    def asked(self):
        """The runs: the plain one, and over words with each pair of layings."""
        words = [lambda whole, name, worths, steps, layings=layings: run_glued(whole, layings, name, worths, steps)
                 for layings in PAIRS]
        return [run_plain] + words

    def assert_all_refused(self, refusal, *handed):
        for asked in self.asked():
            self.assert_refused(refusal, asked, *handed)

    def whole(self):
        return program(door("main", 0, (("a", "copy", NUM), ("b", "lend", TEXT)), None), door("none", 1, (), None),
                       shelves=(("shelf", 0, NUM, 1),))

    def test_no_program(self):
        bad = lone(("say", "x"))
        for thing in anything() + [bad, list(lone()), lone(("fail", 1000)), lone() + ((),), lone()[0], ([], [])]:
            self.assert_all_refused(NoProgram, thing, "main", [], 10)

    def test_no_door(self):
        for name in ("", "mai", "mains", "Main", "a", "shelf", " main", "main ", "main\n", "x" * 1000, "door main 0 () none"):
            self.assert_all_refused(NoDoor, self.whole(), name, [], 10)
        self.assert_all_refused(NoDoor, ((), ()), "main", [], 10)

    def test_no_worths(self):
        for worths in ([], [1], ["a"], [1, "a", 1], [1, "a", None], ["a", 1], [1, 1], [True, "a"], [1.0, "a"], [None, "a"], [1, None],
                       [1, "a" * 61], [32768, "a"], [-32769, "a"], [1, b"a"], [1, ["a"]], [(1,), "a"], [[1, "a"]], [(1, "a")],
                       [1, "\n"], [Awkward(), "a"], [1, Awkward()], [Awkward()], [1, "a"] * 100):
            self.assert_all_refused(NoWorths, self.whole(), "main", worths, 10)
        for worths in ([1], [None], [()], [[]], [Awkward()]):
            self.assert_all_refused(NoWorths, self.whole(), "none", worths, 10)

    def test_anything_among_the_worths(self):
        for thing in anything():
            if not isinstance(thing, int) or isinstance(thing, bool):
                self.assert_all_refused(NoWorths, self.whole(), "main", [thing, "a"], 10)
            if not isinstance(thing, str):
                self.assert_all_refused(NoWorths, self.whole(), "main", [1, thing], 10)

    def test_the_order_of_the_refusals(self):
        bad = lone(("say", "x"))
        self.assert_all_refused(NoProgram, bad, "other", [1, 2, 3], 10)
        self.assert_all_refused(NoProgram, bad, "main", [1], 10)
        self.assert_all_refused(NoProgram, None, "other", [], 0)
        self.assert_all_refused(NoDoor, self.whole(), "other", [Awkward()], 10)
        self.assert_all_refused(NoDoor, self.whole(), "", [1, "a"], 0)
        self.assert_all_refused(NoWorths, self.whole(), "main", [], 0)

    def test_not_refused(self):
        self.assert_end(self.whole(), DONE, "main", [-32768, "~" * 60], 0)
        self.assert_end(self.whole(), DONE, "none", [], 0)

    def test_what_is_handed_in_is_not_changed(self):
        worths = [1, ["a"]]
        for asked in self.asked():
            with self.assertRaises(NoWorths):
                asked(self.whole(), "main", worths, 10)
        self.assertEqual(worths, [1, ["a"]])


if __name__ == "__main__":
    unittest.main()
