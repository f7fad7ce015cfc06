"""How the tests write programs."""

from samples import NUM, TEXT
from things import ROW

PAIR = ("rec", (("n", NUM), ("t", TEXT)))
EITHER = ("pick", (("n", NUM), ("r", ROW)))
ROWS = ("row", ROW)


def door(name, side, places, result, *body):
    """A door: its paper and its body."""
    return ((name, side, tuple(places), result), tuple(body))


def program(*doors, shelves=()):
    return (tuple(doors), tuple(shelves))


def lone(*body, places=(), result=None, shelves=(), side=0):
    """A program with one door, main, of this body."""
    return program(door("main", side, places, result, *body), shelves=shelves)


def within(body, depth):
    """A body of so many levels, each but the last one a try in the one around it."""
    for level in range(depth - 1):
        body = (("try", body, ()),)
    return body
