"""Kinds: what is one, how many words it takes, and the kind at a path."""

from tonguegate.errors import NoPart

LETTERS = "abcdefghijklmnopqrstuvwxyz"
LONGEST_NAME = 8
WIDEST_NUM = 4
MOST_FIELDS = 6
DEEPEST_KIND = 5
MOST_ITEMS = 60


def is_whole(thing):
    """Whether it is a whole number: an int that is no truth."""
    return isinstance(thing, int) and not isinstance(thing, bool)


def is_name(thing):
    """Whether it is a text of one to eight small letters."""
    if not isinstance(thing, str) or not 1 <= len(thing) <= LONGEST_NAME:
        return False
    return all([sign in LETTERS for sign in thing])


def is_kind(thing):
    """Whether anything is a kind."""
    return is_kind_within(thing, DEEPEST_KIND)


def is_kind_within(thing, depth):
    """Whether anything is a kind of at most this depth."""
    if depth < 1 or not isinstance(thing, tuple) or len(thing) not in (1, 2):
        return False
    head = thing[0]
    # Anything may stand here, also what cannot be compared with a text.
    if not isinstance(head, str):
        return False
    if len(thing) == 1:
        return head == "text"
    inner = thing[1]
    if head == "num":
        return is_whole(inner) and 1 <= inner <= WIDEST_NUM
    if head == "row":
        return is_kind_within(inner, depth - 1)
    return head in ("rec", "pick") and are_fields(inner, depth - 1)


def are_fields(thing, depth):
    """Whether anything is fields whose kinds have at most this depth."""
    if not isinstance(thing, tuple) or not 1 <= len(thing) <= MOST_FIELDS:
        return False
    if not all([is_field(field, depth) for field in thing]):
        return False
    return len({name for name, inner in thing}) == len(thing)


def is_field(thing, depth):
    """Whether anything is a name beside a kind of at most this depth."""
    if not isinstance(thing, tuple) or len(thing) != 2:
        return False
    return is_name(thing[0]) and is_kind_within(thing[1], depth)


def size_of(kind):
    """How many words the kind takes."""
    head = kind[0]
    if head == "num":
        return kind[1]
    if head in ("text", "row"):
        return 1
    sizes = [size_of(inner) for name, inner in kind[1]]
    if head == "rec":
        return sum(sizes)
    return 1 + max(sizes, default=0)


def part_kind(kind, path):
    """The kind at the path; NoPart where there is none."""
    found = kind
    for step in path:
        found = step_kind(found, step)
    return found


def step_kind(kind, step):
    """The kind that one step leads to; NoPart where there is none."""
    head = kind[0]
    if head == "row":
        if is_whole(step) and 0 <= step < MOST_ITEMS:
            return kind[1]
        raise NoPart("a row has no item of this number")
    if head in ("rec", "pick"):
        return kind[1][field_place(kind, step)][1]
    raise NoPart("a num or a text has no parts")


def field_place(kind, name):
    """The place of the name, from 0, among the fields of a rec or a pick; NoPart where it is none of theirs."""
    for place, (other, inner) in enumerate(kind[1]):
        if other == name:
            return place
    raise NoPart("there is no field of this name")
