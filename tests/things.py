"""Kinds with worths at the edges that the document names, and worths by chance of any kind."""

import random

from samples import DOT, LABEL, NUM, PAGE, POINT, SHAPE, SHEET, TEXT, TRACK
from tonguegate.kinds import part_kind
from tonguegate.worths import part_of

ROW = ("row", NUM)
TEXTS = ("row", TEXT)
ROWS = ("row", ROW)
WIDE = ("row", ("num", 3))

# The fields' order is b, ab, a; that of their names a, ab, b: a beginning goes ahead of what it begins.
MIXED = ("rec", (("b", ("num", 2)), ("ab", TEXT), ("a", ROW)))
SWAPPED = ("rec", (("y", NUM), ("x", NUM)))
# Fields of the sizes 1, 4 and 2: by told at the places 0, 1 and 2, by names at 2, 1 and 0.
SIZES = ("pick", (("c", TEXT), ("b", ("num", 4)), ("a", POINT)))
LONE = ("pick", (("only", NUM),))
INNER = ("rec", (("z", SIZES), ("m", LONE), ("k", ("row", SIZES))))
DEEP = ("row", ("rec", (("s", ("row", ("pick", (("t", TEXT), ("n", ("num", 2)))))), ("r", NUM))))


def halves():
    """By width, half of what so many words can tell."""
    return {1: 32768, 2: 2147483648, 3: 140737488355328, 4: 9223372036854775808}


def numbers():
    """Kinds num of each width with numbers at both ends, around 0, and with words that are all others."""
    found = []
    for width, half in halves().items():
        for number in (-half, -half + 1, -2, -1, 0, 1, 2, half - 2, half - 1):
            found.append((("num", width), number))
    return found + [(("num", 2), 65536), (("num", 3), -65537), (("num", 4), 0x0001000200030004)]


def cases():
    """Kinds beside worths of them."""
    found = numbers()
    found += [(TEXT, text) for text in ("", "a", " ", "~", "here", "b" * 59, "c" * 60)]
    found += [(ROW, row) for row in ((), (5,), (5, -6), (7,) * 59, tuple(range(60)))]
    found += [(TEXTS, row) for row in ((), ("",), ("a", "", "bc"), ("d" * 60,), ("e",) * 60)]
    found += [(ROWS, row) for row in ((), ((),), ((1,), (), (2, 3)), ((),) * 60, ((4,) * 20,) * 3)]
    found += [(WIDE, (-1, 1, 2 ** 40))]
    found += [(POINT, (1, -2)), (SWAPPED, (1, 2)), (MIXED, (70000, "one", (3, 4))), (MIXED, (0, "", ()))]
    found += [(SIZES, ("a", (1, -2))), (SIZES, ("b", -3)), (SIZES, ("c", "here")), (LONE, ("only", -1))]
    found += [(SHAPE, DOT), (SHAPE, LABEL), (SHAPE, TRACK), (SHEET, PAGE)]
    found += [(INNER, (("c", "z"), ("only", 9), (("b", 4), ("c", ""), ("a", (5, 6)))))]
    found += [(DEEP, ()), (DEEP, (((), 1), ((("t", "u"), ("n", -4), ("t", "")), 2)))]
    return found


def worth_by_chance(chance, kind, longest=3):
    """A worth of the kind, with texts and rows of at most so many."""
    head = kind[0]
    if head == "num":
        half = halves()[kind[1]]
        return chance.choice((-half, half - 1, -1, 0, 1, chance.randrange(-half, half)))
    many = chance.randrange(longest + 1)
    if head == "text":
        return "".join(chance.choice(" !&az~") for sign in range(many))
    if head == "row":
        return tuple(worth_by_chance(chance, kind[1], longest) for item in range(many))
    if head == "rec":
        return tuple(worth_by_chance(chance, inner, longest) for name, inner in kind[1])
    name, inner = chance.choice(kind[1])
    return (name, worth_by_chance(chance, inner, longest))


def kind_by_chance(chance, depth):
    """A kind of at most this depth."""
    head = chance.choice(("num", "text", "row", "rec", "pick") if depth > 1 else ("num", "text"))
    if head == "num":
        return ("num", chance.randrange(1, 5))
    if head == "text":
        return TEXT
    if head == "row":
        return ("row", kind_by_chance(chance, depth - 1))
    names = chance.sample(("a", "ab", "b", "ba", "c", "zz"), chance.randrange(1, 4))
    return (head, tuple((name, kind_by_chance(chance, depth - 1)) for name in names))


def chance_cases(seed, many):
    """So many kinds by chance beside worths of them, the same for each seed."""
    chance = random.Random(seed)
    found = []
    for case in range(many):
        kind = kind_by_chance(chance, 4)
        found.append((kind, worth_by_chance(chance, kind)))
    return found


def paths(kind, worth):
    """The paths to all parts of the worth, of a row's items to the first two and the last alone."""
    found = [()]
    for step in steps(kind, worth):
        inner = part_kind(kind, (step,))
        found += [(step,) + path for path in paths(inner, part_of(kind, worth, (step,)))]
    return found


def steps(kind, worth):
    """The steps that lead to parts of the worth."""
    if kind[0] == "row":
        return sorted({0, 1, len(worth) - 1} & set(range(len(worth))))
    if kind[0] == "rec":
        return [name for name, inner in kind[1]]
    if kind[0] == "pick":
        return [worth[0]]
    return []
