"""Calls of doors [31]: handing by each way, what is let go behind a call, results, calls within calls."""

import unittest

from running import RunCase
from samples import NUM, TEXT
from sketches import door, program
from things import ROW

ONE = ("new", "x", NUM, 1)
TWO = ("new", "y", NUM, 2)
DONE = ("done",)
WAYS = ("copy", "give", "lend", "lease")


def fault(*parts):
    return ("fault", parts)


def main(*body, result=None):
    return door("main", 0, (), result, *body)


class Ways(RunCase):

    def whole(self, way, *body, behind=()):
        """Main hands its x to a door of side 1 by this way, and says x behind it."""
        return program(main(ONE, ("call", None, "help", ("x",)), *behind), door("help", 1, (("v", way, NUM),), None, *body))

    def test_copy(self):
        self.assert_end(self.whole("copy", TWO, ("put", "v", (), "y"), ("say", "v"), behind=(("say", "x"),)), DONE, said=[2, 1], book=[
            ("make", 0, 0), ("share", 0, 1), ("make", 1, 2), ("read", 1, 2), ("put", 1, 1), ("read", 1, 1), ("drop", 1), ("drop", 2),
            ("read", 0, 0), ("drop", 0)])
        self.assert_end(self.whole("copy", ("drop", "v"), ("new", "v", NUM, 3), behind=(("say", "x"),)), DONE, said=[1], book=[
            ("make", 0, 0), ("share", 0, 1), ("drop", 1), ("make", 1, 2), ("drop", 2), ("read", 0, 0), ("drop", 0)])

    def test_give(self):
        self.assert_end(self.whole("give", ("say", "v"), behind=(("say", "x"),)), fault("gone", "x"), said=[1], book=[
            ("make", 0, 0), ("read", 1, 0), ("drop", 0)])
        self.assert_end(self.whole("give", ("drop", "v"), ("new", "v", NUM, 3), behind=(TWO, ONE, ("say", "x"))), DONE, said=[1], book=[
            ("make", 0, 0), ("drop", 0), ("make", 1, 1), ("drop", 1), ("make", 0, 2), ("make", 0, 3), ("read", 0, 3), ("drop", 3),
            ("drop", 2)])

    def test_lend(self):
        self.assert_end(self.whole("lend", ("say", "v"), ("copy", "w", "v"), behind=(("say", "x"), ("drop", "x"))), DONE, said=[1, 1],
                        book=[("make", 0, 0), ("read", 1, 0), ("share", 0, 1), ("drop", 1), ("read", 0, 0), ("drop", 0)])

    def test_lease(self):
        self.assert_end(self.whole("lease", TWO, ("put", "v", (), "y"), ("say", "v"), behind=(("say", "x"), ("drop", "x"))), DONE,
                        said=[2, 2], book=[
            ("make", 0, 0), ("make", 1, 1), ("read", 1, 1), ("put", 1, 0), ("read", 1, 0), ("drop", 1), ("read", 0, 0), ("drop", 0)])

    def test_the_order_of_the_places(self):
        places = (("d", "copy", NUM), ("c", "give", NUM), ("b", "lend", NUM), ("a", "lease", NUM), ("e", "copy", NUM))
        names = [("new", name, NUM, at) for at, name in enumerate(("p", "q", "r", "s", "t"))]
        whole = program(main(*names, ("call", None, "help", ("p", "q", "r", "s", "t"))),
                        door("help", 1, places, None, *[("say", name) for name in "abcde"]))
        self.assert_end(whole, DONE, said=[3, 2, 1, 0, 4], book=[("make", 0, at) for at in range(5)] + [
            ("share", 0, 5), ("share", 4, 6), ("read", 1, 3), ("read", 1, 2), ("read", 1, 1), ("read", 1, 5), ("read", 1, 6),
            ("drop", 1), ("drop", 5), ("drop", 6), ("drop", 0), ("drop", 2), ("drop", 3), ("drop", 4)])

    def test_one_name_handed_twice(self):
        ends = {
            ("copy", "copy"): DONE, ("copy", "give"): DONE, ("copy", "lend"): DONE, ("copy", "lease"): DONE,
            ("give", "copy"): fault("gone", "x"), ("give", "give"): fault("gone", "x"), ("give", "lend"): fault("gone", "x"),
            ("give", "lease"): fault("gone", "x"),
            ("lend", "copy"): DONE, ("lend", "give"): fault("held", "x"), ("lend", "lend"): DONE, ("lend", "lease"): fault("held", "x"),
            ("lease", "copy"): fault("held", "x"), ("lease", "give"): fault("held", "x"), ("lease", "lend"): fault("held", "x"),
            ("lease", "lease"): fault("held", "x"),
        }
        self.assertEqual(len(ends), 16)
        for (one, other), end in ends.items():
            whole = program(main(ONE, ("call", None, "help", ("x", "x"))),
                            door("help", 1, (("v", one, NUM), ("w", other, NUM)), None, ("say", "v"), ("say", "w")))
            self.assert_end(whole, end, said=[1, 1] if end == DONE else [])

    def test_handed_twice_and_free_behind(self):
        for one in WAYS:
            for other in WAYS:
                call = ("try", (("call", None, "help", ("x", "x")),), ())
                whole = program(main(ONE, call, ("new", "x", NUM, 3), ("put", "x", (), "x"), ("drop", "x")),
                                door("help", 1, (("v", one, NUM), ("w", other, NUM)), None))
                self.assert_end(whole, DONE)

    def test_lent_several_times(self):
        deeper = door("help", 1, (("v", "lend", NUM), ("w", "lend", NUM)), None, ("call", None, "tell", ("v", "v", "w")))
        tell = door("tell", 0, (("a", "lend", NUM), ("b", "copy", NUM), ("c", "lend", NUM)), None,
                    *[("say", name) for name in "abc"])
        whole = program(main(ONE, ("call", None, "help", ("x", "x")), ("drop", "x")), deeper, tell)
        self.assert_end(whole, DONE, said=[1, 1, 1], book=[
            ("make", 0, 0), ("share", 0, 1), ("read", 0, 0), ("read", 0, 1), ("read", 0, 0), ("drop", 1), ("drop", 0)])

    def test_leased_on(self):
        whole = program(main(("new", "r", ROW, ()), ("call", None, "help", ("r",)), ("say", "r")),
                        door("help", 1, (("v", "lease", ROW),), None, ONE, ("add", "v", (), "x"), ("call", None, "more", ("v",)),
                             ("add", "v", (), "x"), ("call", None, "tell", ("v",))),
                        door("more", 0, (("w", "lease", ROW),), None, TWO, ("add", "w", (), "y"), ("call", None, "tell", ("w",))),
                        door("tell", 1, (("w", "lend", ROW),), None, ("say", "w")))
        self.assert_end(whole, DONE, said=[(1, 2), (1, 2, 1), (1, 2, 1)])

    def test_held_within_the_borrowing_body(self):
        """What is lent or leased on by a body that borrows it is held there, too, while the call lasts."""
        for way, statement, end in (("lend", ("call", None, "twice", ("v", "v")), fault("held", "v")),
                                    ("lease", ("call", None, "twice", ("v", "v")), fault("held", "v"))):
            whole = program(main(ONE, ("call", None, "help", ("x",))), door("help", 1, (("v", "lease", NUM),), None, statement),
                            door("twice", 0, (("a", way, NUM), ("b", "lease", NUM)), None))
            self.assert_end(whole, end)

    def test_between_doors_of_one_side(self):
        for way in WAYS:
            whole = program(main(ONE, ("call", None, "help", ("x",))), door("help", 0, (("x", way, NUM),), None, ("say", "x")))
            self.assert_end(whole, DONE, said=[1])


class FaultsInHanding(RunCase):
    """A fault ahead of the body: what was handed ahead of it is let go, or no longer held."""

    def test_what_was_handed_is_let_go(self):
        names = [("new", name, NUM, at) for at, name in enumerate("abc")]
        places = (("z", "copy", NUM), ("y", "give", NUM), ("w", "lend", NUM), ("v", "lease", NUM), ("u", "copy", NUM))
        whole = program(main(*names, ("new", "d", NUM, 3), ("new", "g", NUM, 4), ("drop", "g"),
                             ("try", (("call", None, "help", ("a", "b", "c", "d", "g")),), (("say", "c"), ("say", "d"), ("put", "c", (), "d"))),
                             ("say", "c"), ("say", "b")),
                        door("help", 1, places, None, ("fail", 1)))
        self.assert_end(whole, fault("gone", "b"), said=[2, 3, 3], book=[("make", 0, at) for at in range(5)] + [
            ("drop", 4), ("share", 0, 5), ("drop", 1), ("drop", 5), ("read", 0, 2), ("read", 0, 3), ("read", 0, 3), ("put", 0, 2),
            ("read", 0, 2), ("drop", 0), ("drop", 2), ("drop", 3)])

    def test_those_behind_the_fault_are_not_handed(self):
        whole = program(main(ONE, TWO, ("drop", "x"), ("try", (("call", None, "help", ("x", "y")),), ()), ("say", "y")),
                        door("help", 1, (("a", "lend", NUM), ("b", "give", NUM)), None))
        self.assert_end(whole, DONE, said=[2])

    def test_the_body_is_not_begun(self):
        whole = program(main(ONE, ("drop", "x"), ("call", None, "help", ("x",))),
                        door("help", 1, (("a", "lend", NUM),), None, TWO, ("say", "y")))
        self.assert_end(whole, fault("gone", "x"), "main", (), 3, said=[])


class Ends(RunCase):
    """However a call ends, what is left of it is let go, in the order of the names."""

    def whole(self, *body, result=None, target=None):
        places = (("m", "copy", NUM), ("b", "give", NUM), ("q", "lend", NUM), ("a", "lease", NUM))
        makes = [("new", name, NUM, at) for at, name in enumerate("pqrs")]
        return program(main(*makes, ("try", (("call", target, "help", ("p", "q", "r", "s")),), ()), ("say", "r"), ("say", "s")),
                       door("help", 1, places, result, ("new", "c", NUM, 7), ("new", "ab", NUM, 8), *body))

    def assert_lets_go(self, whole, dropped, deeds=()):
        """Behind the deeds of the called body just these are let go, in this order, and then main goes on."""
        makes = [("make", 0, at) for at in range(4)] + [("share", 0, 4), ("make", 1, 5), ("make", 1, 6)]
        self.assert_end(whole, DONE, book=makes + list(deeds) + [("drop", thing) for thing in dropped] + [
            ("read", 0, 2), ("read", 0, 3)] + [("drop", thing) for thing in (0, 2, 3)])

    def test_by_its_last_statement(self):
        self.assert_lets_go(self.whole(), (6, 1, 5, 4))

    def test_by_its_last_statement_without_the_result(self):
        self.assert_lets_go(self.whole(result=NUM), (6, 1, 5, 4))
        self.assert_lets_go(self.whole(result=NUM, target="t"), (6, 1, 5, 4))

    def test_by_a_fault(self):
        self.assert_lets_go(self.whole(("fail", 1), ("new", "z", NUM, 9)), (6, 1, 5, 4))
        self.assert_lets_go(self.whole(("drop", "c"), ("say", "c")), (6, 1, 4), [("drop", 5)])

    def test_by_back(self):
        self.assert_lets_go(self.whole(("back", "c"), ("fail", 1), result=NUM), (6, 1, 4, 5))
        self.assert_lets_go(self.whole(("back", "b"), result=NUM), (6, 5, 4, 1))
        self.assert_lets_go(self.whole(("try", (("back", "m"),), ()), ("fail", 1), result=NUM), (6, 1, 5, 4))

    def test_by_the_stop(self):
        whole = self.whole(("say", "q"), ("say", "a"))
        makes = [("make", 0, at) for at in range(4)] + [("share", 0, 4), ("make", 1, 5), ("make", 1, 6), ("read", 1, 2)]
        self.assert_end(whole, ("stopped",), "main", (), 9, book=makes + [("drop", thing) for thing in (6, 1, 5, 4, 0, 2, 3)])

    def test_what_stands_no_more_is_not_let_go(self):
        self.assert_lets_go(self.whole(("drop", "b"), ("drop", "ab")), (5, 4), [("drop", 1), ("drop", 6)])


class Results(RunCase):

    def whole(self, target, *ahead, behind=()):
        return program(main(*ahead, ("call", target, "get", ()), *behind), door("get", 1, (), NUM, ("new", "g", NUM, 7), ("back", "g")),
                       shelves=(("s", 0, NUM, 5),))

    def test_let_go(self):
        self.assert_end(self.whole(None), DONE, book=[
            ("make", 0, 0), ("make", 1, 1), ("drop", 1), ("read", 0, 0), ("drop", 0)])

    def test_at_a_new_name(self):
        self.assert_end(self.whole("z", behind=(("say", "z"),)), DONE, said=[7], book=[
            ("make", 0, 0), ("make", 1, 1), ("read", 0, 1), ("drop", 1), ("read", 0, 0), ("drop", 0)])

    def test_at_a_name_that_stands(self):
        self.assert_end(self.whole("x", ONE, behind=(("say", "x"),)), DONE, said=[7], book=[
            ("make", 0, 0), ("make", 0, 1), ("make", 1, 2), ("drop", 1), ("read", 0, 2), ("drop", 2), ("read", 0, 0), ("drop", 0)])

    def test_at_a_shelf(self):
        self.assert_end(self.whole("s"), DONE, shelves=[7], book=[
            ("make", 0, 0), ("make", 1, 1), ("drop", 0), ("read", 0, 1), ("drop", 1)])
        self.assert_end(self.whole("s", ("drop", "s")), DONE, shelves=[7])

    def test_at_a_name_that_is_lent_or_leased(self):
        for way in ("lend", "lease"):
            whole = program(main(("call", None, "hold", ("s",))), door("hold", 1, (("v", way, NUM),), None, ("call", None, "inner", ())),
                            door("inner", 0, (), None, ("call", "s", "get", ()), ("say", "s")),
                            door("get", 1, (), NUM, ("new", "g", NUM, 7), ("new", "h", NUM, 8), ("back", "g")),
                            shelves=(("s", 0, NUM, 5),))
            self.assert_end(whole, fault("held", "s"), said=[], shelves=[5], book=[
                ("make", 0, 0), ("make", 1, 1), ("make", 1, 2), ("drop", 2), ("drop", 1), ("read", 0, 0), ("drop", 0)])

    def test_at_the_name_that_was_handed(self):
        """Behind the call it is lent or leased no longer, so the result may be placed there."""
        for way, said in (("copy", 9), ("give", 9), ("lend", 9), ("lease", 9)):
            whole = program(main(ONE, ("call", "x", "swap", ("x",)), ("say", "x")),
                            door("swap", 1, (("v", way, NUM),), NUM, ("new", "w", NUM, 9), ("back", "w")))
            self.assert_end(whole, DONE, said=[said])

    def test_the_given_thing_comes_back(self):
        whole = program(main(ONE, ("call", "x", "pass", ("x",)), ("say", "x")), door("pass", 1, (("v", "give", NUM),), NUM, ("back", "v")))
        self.assert_end(whole, DONE, said=[1], book=[("make", 0, 0), ("read", 0, 0), ("drop", 0)])

    def test_the_called_names_are_let_go_ahead_of_the_result(self):
        whole = program(main(ONE, ("call", "x", "get", ()), ("say", "x")),
                        door("get", 1, (), NUM, ("new", "g", NUM, 7), ("new", "h", NUM, 8), ("back", "g")))
        self.assert_end(whole, DONE, said=[7], book=[
            ("make", 0, 0), ("make", 1, 1), ("make", 1, 2), ("drop", 2), ("drop", 0), ("read", 0, 1), ("drop", 1)])

    def test_a_call_without_a_result_places_none(self):
        whole = program(main(ONE, ("try", (("call", "x", "lack", ()),), ()), ("say", "x")), door("lack", 1, (), NUM))
        self.assert_end(whole, DONE, said=[1])


class CallsWithinCalls(RunCase):

    def chain(self, many, last=()):
        """So many doors, each calling the next one, on sides by turns."""
        names = "abcdefghij"[:many]
        doors = [door("main" if at == 0 else name, at & 1, (), None, ("new", "w", NUM, at), ("say", "w"),
                      *([("call", None, names[at + 1], ())] if at + 1 < many else last), ("say", "w"))
                 for at, name in enumerate(names)]
        return program(*doors)

    def test_eight_bodies(self):
        self.assert_end(self.chain(8), DONE, said=[0, 1, 2, 3, 4, 5, 6, 7, 7, 6, 5, 4, 3, 2, 1, 0])

    def test_a_ninth_body(self):
        self.assert_end(self.chain(9), fault("deep"), said=list(range(8)), book=[
            row for at in range(8) for row in (("make", at & 1, at), ("read", at & 1, at))] + [("drop", at) for at in range(7, -1, -1)])

    def test_a_ninth_body_is_held_up(self):
        whole = program(door("main", 0, (), None, ("new", "w", NUM, 1), ("try", (("call", None, "main", ()),), (("say", "w"),)), ("say", "w")))
        self.assert_end(whole, DONE, said=[1] * 9)

    def test_nothing_is_handed_to_a_ninth_body(self):
        whole = program(door("main", 0, (("v", "give", NUM),), None, ("try", (("call", None, "main", ("v",)),), (("say", "v"),))))
        self.assert_end(whole, DONE, "main", [5], said=[5], book=[("make", 1, 0), ("read", 0, 0), ("drop", 0)])
        gone = program(door("main", 0, (("v", "give", NUM),), None, ("copy", "w", "v"), ("try", (("call", None, "main", ("w",)),), ()),
                            ("say", "v")))
        self.assert_end(gone, DONE, "main", [5], said=[5] * 8)

    def test_deep_goes_ahead_of_the_looks(self):
        whole = program(door("main", 0, (("v", "copy", NUM),), None, ("copy", "w", "v"), ("call", None, "main", ("w",))))
        self.assert_end(whole, fault("deep"), "main", [5])
        whole = program(door("main", 0, (), None, ONE, ("call", None, "next", ())), *[
            door(name, 0, (), None, ("call", None, follow, ())) for name, follow in
            (("next", "nexta"), ("nexta", "nextb"), ("nextb", "nextc"), ("nextc", "nextd"), ("nextd", "nexte"), ("nexte", "last"))],
            door("last", 0, (), None, ONE, ("drop", "x"), ("call", None, "take", ("x",))), door("take", 0, (("v", "give", NUM),), None))
        self.assert_end(whole, fault("deep"))

    def test_many_calls_one_behind_another(self):
        whole = program(main(*[("call", None, "help", ())] * 20), door("help", 1, (), None, ONE, ("say", "x")))
        self.assert_end(whole, DONE, said=[1] * 20)

    def test_bodies_within_bodies_do_not_count(self):
        body = (("call", None, "main", ()),)
        for level in range(3):
            body = (("try", body, (("fail", level),)),)
        self.assert_end(program(door("main", 0, (), None, ONE, ("say", "x"), *body)), fault("fail", 2), said=[1] * 8)

    def test_each_body_has_names_of_its_own(self):
        whole = program(main(ONE, ("call", None, "help", ()), ("say", "x")),
                        door("help", 0, (), None, ("try", (("fail", 1), ("new", "x", TEXT, "")), ()), ("try", (("say", "x"),), (TWO, ("say", "y")))))
        self.assert_end(whole, DONE, said=[2, 1])

    def test_called_back_while_something_is_lent(self):
        """A door that is called back on the lending side may read the lent shelf, and change it behind the call alone."""
        whole = program(
            main(("call", None, "help", ("s",)), ("call", None, "change", ()), ("say", "s")),
            door("help", 1, (("v", "lend", NUM),), None, ("try", (("call", None, "change", ()),), (("say", "v"),)), ("call", None, "tell", ())),
            door("change", 0, (), None, ONE, ("put", "s", (), "x")), door("tell", 0, (), None, ("say", "s")),
            shelves=(("s", 0, NUM, 5),))
        self.assert_end(whole, DONE, said=[5, 5, 1], shelves=[1])

    def test_called_back_while_something_is_leased(self):
        whole = program(
            main(("call", None, "help", ("s",)), ("say", "s")),
            door("help", 1, (("v", "lease", NUM),), None, ("try", (("call", None, "tell", ()),), (TWO, ("put", "v", (), "y"))),
                 ("call", None, "show", ("v",))),
            door("tell", 0, (), None, ("say", "s")), door("show", 0, (("w", "lend", NUM),), None, ("say", "w")),
            shelves=(("s", 0, NUM, 5),))
        self.assert_end(whole, DONE, said=[2, 2], shelves=[2])

    def test_lent_twice_and_one_of_the_two_ended(self):
        """A shelf that is lent by two bodies is lent until the outer one's call ends."""
        whole = program(
            main(("call", None, "help", ("s",)), ("drop", "s")),
            door("help", 1, (("v", "lend", NUM),), None, ("call", None, "again", ()), ("call", None, "free", ())),
            door("again", 0, (), None, ("call", None, "look", ("s",)), ("try", (("drop", "s"),), (("say", "s"),))),
            door("look", 1, (("v", "lend", NUM),), None, ("say", "v")),
            door("free", 0, (), None, ("try", (("drop", "s"),), (("say", "s"),))), shelves=(("s", 0, NUM, 5),))
        self.assert_end(whole, DONE, said=[5, 5, 5], shelves=[None])

    def test_shelves_handed_out(self):
        for way, shelf in (("copy", 5), ("give", None), ("lend", 5), ("lease", 5)):
            whole = program(main(("call", None, "help", ("s",))), door("help", 1, (("v", way, NUM),), None, ("say", "v")),
                            shelves=(("s", 0, NUM, 5),))
            self.assert_end(whole, DONE, said=[5], shelves=[shelf])
        whole = program(main(("call", None, "help", ("s",))), door("help", 1, (("v", "lease", NUM),), None, ONE, ("put", "v", (), "x")),
                        shelves=(("s", 0, NUM, 5),))
        self.assert_end(whole, DONE, shelves=[1])

    def test_a_fault_goes_through_several_doors(self):
        whole = program(main(("try", (("call", None, "one", ()),), (ONE, ("say", "x")))), door("one", 1, (), None, TWO, ("call", None, "two", ())),
                        door("two", 0, (), None, ("new", "z", NUM, 3), ("fail", 8)))
        self.assert_end(whole, DONE, said=[1], book=[
            ("make", 1, 0), ("make", 0, 1), ("drop", 1), ("drop", 0), ("make", 0, 2), ("read", 0, 2), ("drop", 2)])


if __name__ == "__main__":
    unittest.main()
