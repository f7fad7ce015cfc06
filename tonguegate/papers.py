"""Papers of doors: what is one, and where the layings of the two tongues are unlike for its places."""

from tonguegate.alike import apart
from tonguegate.kinds import is_kind, is_name, is_whole

SIDES = (0, 1)
WAYS = ("copy", "give", "lend", "lease")


def is_paper(thing):
    """Whether anything is a paper."""
    if not isinstance(thing, tuple) or len(thing) != 4:
        return False
    name, side, places, result = thing
    if not is_name(name) or not is_side(side) or not are_places(places):
        return False
    return result is None or is_kind(result)


def is_side(thing):
    """Whether anything is one of the two sides."""
    return is_whole(thing) and thing in SIDES


def are_places(thing):
    """Whether anything is the places of a paper."""
    if not isinstance(thing, tuple) or not all([is_place(place) for place in thing]):
        return False
    return len({name for name, way, kind in thing}) == len(thing)


def is_place(thing):
    """Whether anything is a place of a paper: a name, a way and a kind."""
    if not isinstance(thing, tuple) or len(thing) != 3:
        return False
    name, way, kind = thing
    # Anything may stand at the way's place, also what cannot be compared with a text.
    return is_name(name) and isinstance(way, str) and way in WAYS and is_kind(kind)


def crossing(layings, paper):
    """For each place of the paper, in order, a tuple of its name, its way and a worth of its kind that tells apart.

    The layings are those of the tongues 0 and 1. None stands in the worth's place where they are alike for the kind.
    """
    one, other = layings
    return [(name, way, apart(one, other, kind)) for name, way, kind in paper[2]]
