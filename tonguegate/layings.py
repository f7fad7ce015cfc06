"""Layings: what is one, all of them, and the order in which they put fields."""

from tonguegate.kinds import size_of

CHOICES = (("high", "low"), ("count", "end"), ("array", "chain"), ("names", "told"))


def is_laying(thing):
    """Whether anything is a laying."""
    if not isinstance(thing, tuple) or len(thing) != len(CHOICES):
        return False
    # Anything may stand here, also what cannot be compared with a text.
    return all([isinstance(word, str) and word in words for word, words in zip(thing, CHOICES)])


def all_layings():
    """The list of all layings, sorted."""
    halves, texts, rows, orders = CHOICES
    return sorted([(half, text, row, order) for half in halves for text in texts for row in rows for order in orders])


def in_order(laying, fields):
    """The fields in the order in which the laying puts them."""
    if laying[3] == "told":
        return fields
    return tuple(sorted(fields, key=lambda field: field[0]))


def field_offsets(laying, fields):
    """By the name of each field of a rec, how many words stand ahead of its own."""
    offsets = {}
    ahead = 0
    for name, inner in in_order(laying, fields):
        offsets[name] = ahead
        ahead += size_of(inner)
    return offsets
