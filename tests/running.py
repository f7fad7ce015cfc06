"""How the tests look at runs: the plain one and those over words, side by side."""

from glueing import GlueCase
from tonguegate.gate import run_glued
from tonguegate.layings import all_layings
from tonguegate.runs import run_plain

HERE = ("low", "count", "array", "told")
THERE = ("high", "end", "chain", "names")
PAIRS = ((HERE, THERE), (THERE, HERE), (HERE, HERE), (HERE, ("high", "count", "array", "told")))


def all_pairs():
    return [(one, other) for one in all_layings() for other in all_layings()]


def untold(book):
    """The rows of a glue keeper's book that a plain one has, too."""
    return [row for row in book if row[0] not in ("turn", "split")]


class RunCase(GlueCase):

    def assert_words_as_plain(self, program, layings, door, worths, steps, plain):
        """The run over words tells what the plain one told, and gives each block back: what it told."""
        told = run_glued(program, layings, door, worths, steps)
        self.assertIsInstance(told, tuple)
        self.assertEqual(len(told), 5)
        self.assertEqual(told[:3], plain[:3])
        self.assertEqual(untold(told[3]), plain[3])
        self.assert_all_given_back(told[4])
        self.assert_few_turns(told[3])
        return told

    def assert_all_given_back(self, book):
        """Each block was taken at its least place and given back once, by its hand, and none is left."""
        self.assert_least_places(60000, book)
        kinds = [row[0] for row in book]
        self.assertEqual(kinds.count("take"), kinds.count("give"))

    def run_all(self, program, door="main", worths=(), steps=1000):
        """What the plain run tells; the runs over words are looked at beside it."""
        plain = run_plain(program, door, list(worths), steps)
        self.assertIsInstance(plain, tuple)
        self.assertEqual(len(plain), 4)
        for layings in PAIRS:
            self.assert_words_as_plain(program, layings, door, list(worths), steps, plain)
        return plain

    def assert_end(self, program, end, *handed, said=None, shelves=None, book=None):
        """The run ends so; said are these worths (sides left out), the shelves have these worths, and so on."""
        plain = self.run_all(program, *handed)
        self.assertEqual(plain[1], end)
        if said is not None:
            self.assertEqual([worth for side, worth in plain[0]], list(said))
        if shelves is not None:
            self.assertEqual([worth for name, side, worth in plain[2]], list(shelves))
        if book is not None:
            self.assertEqual(plain[3], list(book))
        self.assert_all_dropped(plain[3])

    def assert_all_dropped(self, book):
        """Each thing of the book is let go just once, and none is asked for behind that."""
        standing = set()
        for row in book:
            if row[0] in ("make", "share"):
                standing.add(row[2])
            elif row[0] == "drop":
                standing.remove(row[1])
            if row[0] in ("read", "part", "put", "grow"):
                self.assertIn(row[2], standing)
            elif row[0] == "share":
                self.assertIn(row[1], standing)
        self.assertEqual(standing, set())
