"""The forms of programs: doors, shelves, bodies and statements, whatever rules they keep."""

from tonguegate.kinds import is_kind, is_name, is_whole
from tonguegate.papers import is_paper, is_side
from tonguegate.worths import is_worth

DEEPEST_BODY = 4
GREATEST_FAIL = 999

# What stands behind the word of each sort of statement.
STATEMENTS = {
    "new": ("name", "kind", "worth"),
    "copy": ("name", "name"),
    "part": ("name", "name", "path"),
    "put": ("name", "path", "name"),
    "add": ("name", "path", "name"),
    "drop": ("name",),
    "say": ("name",),
    "call": ("name or none", "name", "names"),
    "same": ("name", "name", "body", "body"),
    "fail": ("fail",),
    "try": ("body", "body"),
    "back": ("name",),
}


def has_program_form(thing):
    """Whether anything has the form of a program."""
    if not isinstance(thing, tuple) or len(thing) != 2:
        return False
    doors, shelves = thing
    if not isinstance(doors, tuple) or not isinstance(shelves, tuple):
        return False
    return all([is_door(door) for door in doors]) and all([is_shelf(shelf) for shelf in shelves])


def is_door(thing):
    """Whether anything is a paper beside a body."""
    if not isinstance(thing, tuple) or len(thing) != 2:
        return False
    return is_paper(thing[0]) and is_body(thing[1], 1)


def is_shelf(thing):
    """Whether anything is a name, a side, a kind and a worth of it."""
    if not isinstance(thing, tuple) or len(thing) != 4:
        return False
    name, side, kind, worth = thing
    return is_name(name) and is_side(side) and is_kind(kind) and is_worth(kind, worth)


def is_body(thing, depth):
    """Whether anything is a body that may stand at this depth."""
    if depth > DEEPEST_BODY or not isinstance(thing, tuple):
        return False
    return all([is_statement(statement, depth) for statement in thing])


def is_statement(thing, depth):
    """Whether anything has the form of a statement in a body of this depth."""
    # Anything may stand at the word's place, also what cannot be compared with a text.
    if not isinstance(thing, tuple) or not thing or not isinstance(thing[0], str):
        return False
    sorts = STATEMENTS.get(thing[0])
    if sorts is None or len(thing) != 1 + len(sorts):
        return False
    if not all([is_of_sort(sort, part, depth) for sort, part in zip(sorts, thing[1:])]):
        return False
    return thing[0] != "new" or is_worth(thing[2], thing[3])


def is_of_sort(sort, thing, depth):
    """Whether anything may stand in a statement where this sort is asked for."""
    if sort == "name":
        return is_name(thing)
    if sort == "name or none":
        return thing is None or is_name(thing)
    if sort == "names":
        return isinstance(thing, tuple) and all([is_name(name) for name in thing])
    if sort == "path":
        return is_path(thing)
    if sort == "kind":
        return is_kind(thing)
    if sort == "body":
        return is_body(thing, depth + 1)
    if sort == "fail":
        return is_whole(thing) and 0 <= thing <= GREATEST_FAIL
    # Which worths there are hangs on the kind beside it, so the statement looks at it as a whole.
    return sort == "worth"


def is_path(thing):
    """Whether anything is a path."""
    if not isinstance(thing, tuple):
        return False
    return all([isinstance(step, str) or is_whole(step) for step in thing])
