"""Things that the tests hand in: kinds, worths, and things of all other sorts."""

import copy


class Awkward:
    """Something that fails as soon as it is compared, hashed, measured or shown."""

    def __eq__(self, other):
        raise RuntimeError("compared")

    def __hash__(self):
        raise RuntimeError("hashed")

    def __len__(self):
        raise RuntimeError("measured")

    def __bool__(self):
        raise RuntimeError("asked for a truth")

    def __repr__(self):
        return "Awkward()"

    def __deepcopy__(self, memo):
        return self


NUM = ("num", 1)
TEXT = ("text",)

POINT = ("rec", (("x", NUM), ("y", ("num", 2))))
SHAPE = ("pick", (("dot", POINT), ("label", TEXT), ("path", ("row", NUM))))
SHEET = ("rec", (("title", TEXT), ("shapes", ("row", SHAPE)), ("main", SHAPE)))

DOT = ("dot", (1, -2))
LABEL = ("label", "here")
TRACK = ("path", (3, 4))
PAGE = ("one", (DOT, LABEL, TRACK), TRACK)


def anything():
    """Things of all sorts, none of them a kind or a worth of a rec, a pick or a row with items."""
    return [
        True, False, None, 0, 1, -1, 4, 10 ** 40, 1.0, 1.5, float("nan"), 1j,
        "", "a", "num", "text", "row", "rec", "pick", b"", b"text", bytearray(b"text"),
        [], ["text"], ["num", 1], ["row", ("text",)], {}, {"num": 1}, {"text": None},
        set(), {"text"}, frozenset(["text"]), range(2), object(), Awkward(), len, str, ValueError,
        (), (None,), (True,), ((),), (("text",),), ([],), ({},), (Awkward(),), (Awkward(), 1),
        ("num",), ("num", 1, 1), ("num", "1"), ("num", None), ("num", 1.0), ("num", [1]), ("num", (1,)),
        ("text", None), ("text", 1), ("text", ()), ("text", "a"), ("words",), ("",), ("Text",), (b"text",),
        (None, 1), (1, "num"), (["num"], 1), ({}, 1), ("list", ("text",)), ("NUM", 1), ("num", Awkward()),
        ("row", Awkward()), ("rec", Awkward()), ("pick", Awkward()),
    ]


def deep(depth):
    """A kind of this depth, made of rows around a text."""
    kind = TEXT
    for level in range(depth - 1):
        kind = ("row", kind)
    return kind


def nested(depth):
    """Tuples so deep within one another."""
    thing = ()
    for level in range(depth - 1):
        thing = (thing,)
    return thing


def snapshot(things):
    """A deep copy of what is handed in, to see afterwards that it is unchanged."""
    return copy.deepcopy(things)
