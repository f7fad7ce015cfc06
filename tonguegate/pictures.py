"""Pictures of worths by a laying, and worths read back out of them."""

from tonguegate.errors import NoPicture
from tonguegate.kinds import MOST_ITEMS, size_of
from tonguegate.layings import field_offsets, in_order
from tonguegate.words import is_word, number_of_words, text_of_signs, words_of_number, words_of_text
from tonguegate.worths import MOST_SIGNS, is_sign


def picture(laying, kind, worth):
    """The picture of the worth: a tuple of words and blocks."""
    head = kind[0]
    if head == "num":
        return words_of_number(laying[0], kind[1], worth)
    if head == "text":
        return (words_of_text(laying[1], worth),)
    if head == "row":
        return (row_entry(laying, kind[1], worth),)
    if head == "rec":
        return record_picture(laying, kind[1], worth)
    return choice_picture(laying, kind, worth)


def row_entry(laying, kind, items):
    """The one entry of a row of items of the kind: a block, or 0 for a chain of none."""
    pictures = [picture(laying, kind, item) for item in items]
    if laying[2] == "array":
        return (len(pictures),) + joined(pictures)
    entry = 0
    for one in reversed(pictures):
        entry = (entry,) + one
    return entry


def record_picture(laying, fields, parts):
    """The pictures of a rec's parts, in the order of the laying."""
    by_name = {name: part for (name, inner), part in zip(fields, parts)}
    return joined([picture(laying, inner, by_name[name]) for name, inner in in_order(laying, fields)])


def choice_picture(laying, kind, pair):
    """The picture of a pick's worth, with words 0 up to the pick's size."""
    ordered = in_order(laying, kind[1])
    place = [name for name, inner in ordered].index(pair[0])
    entries = (place,) + picture(laying, ordered[place][1], pair[1])
    return entries + (0,) * (size_of(kind) - len(entries))


def joined(pictures):
    """The entries of the pictures, one behind another."""
    return tuple([entry for one in pictures for entry in one])


def words_in(picture):
    """How many words the picture has, those of its blocks counted in."""
    many = 0
    waiting = [picture]
    while waiting:
        entries = waiting.pop()
        many += len(entries)
        waiting += [entry for entry in entries if isinstance(entry, tuple)]
    return many


def of_picture(laying, kind, thing):
    """The worth whose picture it is; NoPicture where it is that of none."""
    if not isinstance(thing, tuple) or len(thing) != size_of(kind):
        raise NoPicture("no tuple of as many entries as the kind's size")
    return worth_at(laying, kind, thing, 0)


def worth_at(laying, kind, entries, place):
    """The worth whose picture begins at this place of the entries; NoPicture where there is none."""
    head = kind[0]
    if head == "num":
        return number_read(laying[0], entries[place:place + kind[1]])
    if head == "text":
        return text_read(laying[1], entries[place])
    if head == "row" and laying[2] == "array":
        return array_read(laying, kind[1], entries[place])
    if head == "row":
        return chain_read(laying, kind[1], entries[place])
    if head == "rec":
        offsets = field_offsets(laying, kind[1])
        return tuple([worth_at(laying, inner, entries, place + offsets[name]) for name, inner in kind[1]])
    return choice_read(laying, kind, entries, place)


def number_read(halves, words):
    """The number in these entries."""
    if not all([is_word(word) for word in words]):
        raise NoPicture("what stands for a number is no word")
    return number_of_words(halves, words)


def text_read(texts, block):
    """The text in this entry."""
    if not isinstance(block, tuple) or not block:
        raise NoPicture("what stands for a text is no block")
    counted = texts == "count"
    signs = block[1:] if counted else block[:-1]
    mark = block[0] if counted else block[-1]
    if not is_word(mark) or mark != (len(signs) if counted else 0):
        raise NoPicture("the text has a wrong count or end")
    if len(signs) > MOST_SIGNS or not all([is_word(sign) and is_sign(sign) for sign in signs]):
        raise NoPicture("too many signs, or none that a text may have")
    return text_of_signs(signs)


def array_read(laying, kind, block):
    """The row of items of the kind in this entry, an array."""
    if not isinstance(block, tuple) or not block:
        raise NoPicture("what stands for a row is no block")
    many = block[0]
    size = size_of(kind)
    if not is_word(many) or many > MOST_ITEMS or len(block) != 1 + many * size:
        raise NoPicture("the row has a wrong count")
    return tuple([worth_at(laying, kind, block, 1 + item * size) for item in range(many)])


def chain_read(laying, kind, entry):
    """The row of items of the kind in this entry, a chain."""
    items = []
    size = size_of(kind)
    rest = entry
    while isinstance(rest, tuple):
        if len(rest) != 1 + size or len(items) >= MOST_ITEMS:
            raise NoPicture("a block of the chain has a wrong length or is one too many")
        items.append(worth_at(laying, kind, rest, 1))
        rest = rest[0]
    if not is_word(rest) or rest != 0:
        raise NoPicture("the chain does not end with 0")
    return tuple(items)


def choice_read(laying, kind, entries, place):
    """The worth of a pick that begins at this place of the entries."""
    ordered = in_order(laying, kind[1])
    chosen = entries[place]
    if not is_word(chosen) or chosen >= len(ordered):
        raise NoPicture("the pick has no field of this place")
    name, inner = ordered[chosen]
    behind = entries[place + 1 + size_of(inner):place + size_of(kind)]
    if not all([is_word(word) and word == 0 for word in behind]):
        raise NoPicture("behind the pick's worth stands another word than 0")
    return (name, worth_at(laying, inner, entries, place + 1))
