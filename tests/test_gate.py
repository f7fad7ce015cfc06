"""The run over words [34], and the promise of the whole [4]: it tells what the plain run tells."""

import copy
import random
import unittest

from chances import program_by_chance
from modelling import run_model
from running import HERE, PAIRS, THERE, RunCase, all_pairs, untold
from samples import NUM, TEXT
from sketches import door, program
from things import ROW, TEXTS
from tonguegate.gate import run_glued
from tonguegate.programs import is_program
from tonguegate.runs import run_plain

UNLIKE = (HERE, THERE)


class Book(RunCase):
    """The glue keeper's book of a run, with its turns and splits, and the store's book."""

    def assert_book(self, whole, layings, book, worths=()):
        told = self.assert_words_as_plain(whole, layings, "main", list(worths), 100, run_plain(whole, "main", list(worths), 100))
        self.assertEqual(told[3], book)
        return told

    def test_lent_and_read_there(self):
        whole = program(door("main", 0, (), None, ("new", "t", TEXT, "a"), ("call", None, "tell", ("t",)), ("call", None, "tell", ("t",)),
                             ("say", "t")), door("tell", 1, (("v", "lend", TEXT),), None, ("say", "v")))
        self.assert_book(whole, UNLIKE, [
            ("make", 0, 0), ("turn", 1, 0), ("read", 1, 0), ("read", 1, 0), ("read", 0, 0), ("drop", 0)])
        self.assert_book(whole, (HERE, HERE), [("make", 0, 0), ("read", 1, 0), ("read", 1, 0), ("read", 0, 0), ("drop", 0)])

    def test_leased_and_changed_there(self):
        whole = program(
            door("main", 0, (), None, ("new", "r", TEXTS, ()), ("call", None, "more", ("r",)), ("call", None, "more", ("r",)), ("say", "r")),
            door("more", 1, (("v", "lease", TEXTS),), None, ("new", "t", TEXT, "a"), ("add", "v", (), "t")))
        self.assert_book(whole, UNLIKE, [
            ("make", 0, 0), ("make", 1, 1), ("read", 1, 1), ("turn", 1, 0), ("grow", 1, 0), ("drop", 1), ("make", 1, 2), ("read", 1, 2),
            ("grow", 1, 0), ("drop", 2), ("turn", 0, 0), ("read", 0, 0), ("drop", 0)])

    def test_copied_and_changed_there(self):
        whole = program(
            door("main", 0, (), None, ("new", "r", TEXTS, ("b",)), ("call", None, "more", ("r",)), ("say", "r")),
            door("more", 1, (("v", "copy", TEXTS),), None, ("new", "t", TEXT, "a"), ("add", "v", (), "t"), ("say", "v")))
        self.assert_book(whole, UNLIKE, [
            ("make", 0, 0), ("share", 0, 1), ("make", 1, 2), ("read", 1, 2), ("turn", 1, 1), ("split", 1, 1), ("grow", 1, 1),
            ("read", 1, 1), ("drop", 2), ("drop", 1), ("read", 0, 0), ("drop", 0)])
        self.assert_book(whole, (THERE, THERE), [
            ("make", 0, 0), ("share", 0, 1), ("make", 1, 2), ("read", 1, 2), ("split", 1, 1), ("grow", 1, 1), ("read", 1, 1),
            ("drop", 2), ("drop", 1), ("read", 0, 0), ("drop", 0)])

    def test_given_and_never_looked_at(self):
        whole = program(door("main", 0, (("t", "give", TEXT),), TEXT, ("back", "t")))
        self.assert_book(whole, UNLIKE, [("make", 1, 0), ("read", 1, 0), ("drop", 0)], ["a"])

    def test_a_turn_for_a_fault(self):
        whole = program(
            door("main", 0, (), None, ("new", "r", TEXTS, ("b",)), ("call", None, "look", ("r",))),
            door("look", 1, (("v", "lend", TEXTS),), None, ("part", "t", "v", (1,))))
        self.assert_book(whole, UNLIKE, [("make", 0, 0), ("turn", 1, 0), ("drop", 0)])

    def test_put_as_a_whole_turns_nothing(self):
        whole = program(
            door("main", 0, (), None, ("new", "t", TEXT, "b"), ("call", None, "set", ("t",)), ("say", "t")),
            door("set", 1, (("v", "lease", TEXT),), None, ("new", "w", TEXT, "c"), ("put", "v", (), "w")))
        self.assert_book(whole, UNLIKE, [
            ("make", 0, 0), ("make", 1, 1), ("read", 1, 1), ("put", 1, 0), ("drop", 1), ("turn", 0, 0), ("read", 0, 0), ("drop", 0)])

    def test_shelves_are_read_by_their_sides(self):
        whole = program(door("main", 0, (), None, ("call", None, "set", ("s",))),
                        door("set", 1, (("v", "lease", ROW),), None, ("new", "w", NUM, 1), ("add", "v", (), "w")),
                        shelves=(("s", 0, ROW, ()), ("s", 1, ROW, ())))
        self.assert_book(whole, UNLIKE, [
            ("make", 0, 0), ("make", 1, 1), ("make", 1, 2), ("read", 1, 2), ("turn", 1, 0), ("grow", 1, 0), ("drop", 2), ("turn", 0, 0),
            ("read", 0, 0), ("drop", 0), ("read", 1, 1), ("drop", 1)])

    def test_the_stores_book(self):
        whole = program(door("main", 0, (("t", "give", TEXT),), None, ("say", "t")))
        told = self.assert_book(whole, UNLIKE, [("make", 1, 0), ("turn", 0, 0), ("read", 0, 0), ("drop", 0)], ["ab"])
        takes = [row for row in told[4] if row[0] == "take"]
        gives = [row for row in told[4] if row[0] == "give"]
        # The word of the text and its block, in the tongue of 1 and then in that of 0.
        self.assertEqual(sorted(row[1:2] + row[3:] for row in takes), [(0, 1), (0, 3), (1, 1), (1, 3)])
        self.assertEqual(sorted(row[1] for row in gives), [0, 0, 1, 1])
        self.assertEqual({row[2] for row in takes}, {row[2] for row in gives})

    def test_no_thing_no_block(self):
        self.assertEqual(run_glued(program(door("main", 0, (), None)), UNLIKE, "main", [], 5), ([], ("done",), [], [], []))

    def test_all_words_of_the_store(self):
        """Things of just 60000 words in all stand at once."""
        texts = ("x" * 60,) * 60
        parts = [(TEXTS, texts)] * 16 + [(TEXT, "y" * 60)] * 7 + [(TEXT, "z" * 12)]
        letters = "abcdefghijklmnopqrstuvwxyz"
        body = [("new", letters[at], kind, worth) for at, (kind, worth) in enumerate(parts)]
        whole = program(door("main", 0, (), None, *body))
        told = self.assert_words_as_plain(whole, (HERE, HERE), "main", [], 100, run_plain(whole, "main", [], 100))
        self.assertEqual(sum(row[3] for row in told[4] if row[0] == "take"), 60000)

    def test_greater_worths(self):
        rows = tuple("x" * 60 for item in range(60))
        whole = program(
            door("main", 0, (("r", "give", TEXTS),), TEXTS, ("call", None, "turn", ("r",)), ("say", "r"), ("back", "r")),
            door("turn", 1, (("v", "lease", TEXTS),), None, ("part", "t", "v", (59,)), ("put", "v", (0,), "t"), ("say", "t")))
        for layings in PAIRS:
            self.assert_words_as_plain(whole, layings, "main", [rows], 100, run_plain(whole, "main", [rows], 100))


class TheWhole(RunCase):

    def test_plain_runs_by_chance(self):
        """The plain run tells what the model tells that is written after the points."""
        for seed in range(400):
            whole, asked = program_by_chance(seed)
            self.assertIs(is_program(whole), True)
            for name, worths in asked:
                for steps in (0, 1, 5, 40, 150):
                    told = run_plain(whole, name, worths, steps)
                    self.assertEqual(told, run_model(whole, name, worths, steps), seed)
                    self.assert_all_dropped(told[3])

    def test_runs_over_words_by_chance(self):
        chance = random.Random(4)
        pairs = all_pairs()
        for seed in range(400, 700):
            whole, asked = program_by_chance(seed)
            for name, worths in asked:
                for steps in (4, 25, 120):
                    plain = run_plain(whole, name, worths, steps)
                    self.assert_words_as_plain(whole, chance.choice(pairs), name, worths, steps, plain)

    def test_all_pairs(self):
        for seed in (3, 8):
            whole, asked = program_by_chance(seed)
            for name, worths in asked:
                plain = run_plain(whole, name, worths, 60)
                for layings in all_pairs():
                    self.assert_words_as_plain(whole, layings, name, worths, 60, plain)

    def test_every_number_of_steps(self):
        for seed in range(700, 730):
            whole, asked = program_by_chance(seed)
            name, worths = asked[0]
            for steps in range(0, 40):
                plain = run_plain(whole, name, worths, steps)
                self.assertEqual(plain, run_model(whole, name, worths, steps))
                self.assert_words_as_plain(whole, PAIRS[steps & 1], name, worths, steps, plain)

    def test_more_steps_go_on_as_fewer_did(self):
        """What is said with fewer steps is said first with more."""
        for seed in range(730, 760):
            whole, asked = program_by_chance(seed)
            name, worths = asked[-1]
            said = []
            for steps in range(0, 60, 3):
                told = run_glued(whole, UNLIKE, name, worths, steps)
                self.assertEqual(told[0][:len(said)], said)
                said = told[0]

    def test_where_layings_are_alike_nothing_is_turned(self):
        for seed in range(760, 800):
            whole, asked = program_by_chance(seed)
            for name, worths in asked:
                book = run_glued(whole, (THERE, THERE), name, worths, 80)[3]
                self.assertNotIn("turn", [row[0] for row in book])

    def test_the_same_asked_twice(self):
        for seed in range(800, 840):
            whole, asked = program_by_chance(seed)
            for name, worths in asked:
                before = copy.deepcopy((whole, worths))
                for run in (lambda: run_plain(whole, name, worths, 80), lambda: run_glued(whole, UNLIKE, name, worths, 80)):
                    self.assertEqual(run(), run())
                self.assertEqual((whole, worths), before)

    def test_the_chances_reach_all_sorts_of_ends_and_rows(self):
        ends, rows = set(), set()
        for seed in range(400):
            whole, asked = program_by_chance(seed)
            for name, worths in asked:
                told = run_glued(whole, UNLIKE, name, worths, 150)
                ends.add(told[1][1][0] if told[1][0] == "fault" else told[1][0])
                rows |= {row[0] for row in told[3]}
                self.assertEqual(untold(told[3]), run_plain(whole, name, worths, 150)[3])
        self.assertLessEqual({"back", "done", "stopped", "gone", "held", "deep", "noback", "nopart", "fail", "full"}, ends)
        self.assertEqual(rows, {"make", "share", "read", "part", "put", "grow", "drop", "turn", "split"})


if __name__ == "__main__":
    unittest.main()
