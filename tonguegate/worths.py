"""Worths: what is one of a kind, its parts, and worths with a part exchanged or one item more."""

from tonguegate.errors import Full, NoPart
from tonguegate.kinds import MOST_ITEMS, field_place, is_whole, part_kind, step_kind

WORD_NUMBERS = 65536
MOST_SIGNS = 60
FIRST_SIGN = 32
LAST_SIGN = 126
HUNDREDTH_SIGN = 37


def is_worth(kind, thing):
    """Whether anything is a worth of the kind."""
    head = kind[0]
    if head == "num":
        return is_number(kind[1], thing)
    if head == "text":
        return is_text(thing)
    if not isinstance(thing, tuple):
        return False
    if head == "row":
        return len(thing) <= MOST_ITEMS and all([is_worth(kind[1], item) for item in thing])
    if head == "rec":
        return is_record(kind[1], thing)
    return is_choice(kind[1], thing)


def is_number(width, thing):
    """Whether anything is a whole number that so many words can hold."""
    if not is_whole(thing):
        return False
    numbers = 1
    for word in range(width):
        numbers *= WORD_NUMBERS
    # Doubled on both sides, so that no half has to be made of an odd number.
    return -numbers <= 2 * thing <= numbers - 2


def is_text(thing):
    """Whether anything is a worth of text."""
    if not isinstance(thing, str) or len(thing) > MOST_SIGNS:
        return False
    return all([is_sign(ord(sign)) for sign in thing])


def is_sign(number):
    """Whether a text may have the sign of this number."""
    return FIRST_SIGN <= number <= LAST_SIGN and number != HUNDREDTH_SIGN


def is_record(fields, parts):
    """Whether a tuple has one worth for each field, in the fields' order."""
    if len(parts) != len(fields):
        return False
    return all([is_worth(inner, part) for (name, inner), part in zip(fields, parts)])


def is_choice(fields, pair):
    """Whether a tuple is the name of one of the fields beside a worth of that field's kind."""
    # Anything may stand at the name's place, also what cannot be compared with a text.
    if len(pair) != 2 or not isinstance(pair[0], str):
        return False
    return any([name == pair[0] and is_worth(inner, pair[1]) for name, inner in fields])


def part_of(kind, worth, path):
    """The part of the worth at the path; NoPart where there is none."""
    inner = kind
    found = worth
    for step in path:
        found = found[part_place(inner, found, step)]
        inner = step_kind(inner, step)
    return found


def part_place(kind, worth, step):
    """The place, in the worth's tuple, of the part that one step leads to; NoPart where there is none."""
    # This refuses what the kind has not, so that below only the worth is left to look at.
    step_kind(kind, step)
    head = kind[0]
    if head == "rec":
        return field_place(kind, step)
    if head == "row":
        if step < len(worth):
            return step
        raise NoPart("the row has no such item")
    if worth[0] == step:
        return 1
    raise NoPart("the pick has another name")


def with_part(kind, worth, path, part):
    """The worth in which the part at the path is another one; NoPart where there is none.

    A last step into a pick sets its name, too.
    """
    if not path:
        return part
    step = path[0]
    rest = path[1:]
    inner = step_kind(kind, step)
    if kind[0] == "pick" and not rest:
        return (step, part)
    place = part_place(kind, worth, step)
    exchanged = with_part(inner, worth[place], rest, part)
    return worth[:place] + (exchanged,) + worth[place + 1:]


def with_more(kind, worth, path, item):
    """The worth in which the row at the path has one more item; NoPart where there is no row, then Full."""
    row = part_of(kind, worth, path)
    if part_kind(kind, path)[0] != "row":
        raise NoPart("the part is no row")
    if len(row) >= MOST_ITEMS:
        raise Full("the row has sixty items")
    return with_part(kind, worth, path, row + (item,))
