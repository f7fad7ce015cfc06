"""Things changed where they lie in a store, and things turned into another laying."""

from tonguegate.errors import Full, NoPart
from tonguegate.kinds import MOST_ITEMS, part_kind, size_of
from tonguegate.laid import (
    blocks_within, chain_blocks, give_all, items_at, lay, lay_block, part_at, put_entries, read_laid, words_at,
)
from tonguegate.pictures import picture


def put_laid(store, hand, laying, kind, address, path, part):
    """Make the part at the path another worth; NoPart where there is none."""
    place, worth = exchange(kind, path, part)
    inner = part_kind(kind, place)
    at = part_at(store, laying, kind, address, place)
    entries = picture(laying, inner, worth)
    give_all(store, hand, blocks_within(store, laying, inner, at))
    put_entries(store, hand, at, entries)


def exchange(kind, path, part):
    """The path of what has to be exchanged, and its new worth; NoPart where the kind has no part at the path."""
    part_kind(kind, path)
    if path and part_kind(kind, path[:-1])[0] == "pick":
        # The pick itself is exchanged, whatever it had.
        return (path[:-1], (path[-1], part))
    return (path, part)


def more_laid(store, hand, laying, kind, address, path, item):
    """Give the row at the path one more item; NoPart where there is no row, then Full."""
    at = part_at(store, laying, kind, address, path)
    row = part_kind(kind, path)
    if row[0] != "row":
        raise NoPart("the part is no row")
    many = len(items_at(store, laying, row[1], at))
    if many >= MOST_ITEMS:
        raise Full("the row has sixty items")
    entries = picture(laying, row[1], item)
    if laying[2] == "chain":
        lengthen_chain(store, hand, at, entries)
    else:
        lengthen_array(store, hand, at, many, size_of(row[1]), entries)


def lengthen_chain(store, hand, address, entries):
    """Put the entries of one more item behind the last block of the chain at the address."""
    last = ([address] + chain_blocks(store, address))[-1]
    store.put(last, lay_block(store, hand, (0,) + entries))


def lengthen_array(store, hand, address, many, size, entries):
    """Put the entries of one more item behind the items, so many and of this size, of the array at the address."""
    block = store.look(address)
    words = tuple(words_at(store, block + 1, many * size))
    store.give(hand, block)
    store.put(address, lay_block(store, hand, (many + 1,) + words + entries))


def turned(store, hand, one, other, kind, address):
    """Lay the worth of the thing at the address, which is laid by the one laying, by the other one: its address."""
    return lay(store, hand, other, kind, read_laid(store, one, kind, address))
