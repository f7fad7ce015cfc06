"""Runs over words: two tongues that share one store."""

from tonguegate.glue import GlueKeeper
from tonguegate.runs import run_with
from tonguegate.store import Store

STORE_WORDS = 60000


def run_glued(program, layings, door, worths, steps):
    """Run the program over words, by the layings of the tongues 0 and 1.

    Told is a tuple (said, end, shelves, book, store book); NoProgram, then NoDoor, then NoWorths.
    """
    store = Store(STORE_WORDS)
    told = run_with(GlueKeeper(store, layings), program, door, worths, steps)
    return told + (store.book(),)
