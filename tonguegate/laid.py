"""Things laid in a store: laid, read, their parts found, and let go."""

from tonguegate.errors import NoPart
from tonguegate.kinds import size_of, step_kind
from tonguegate.layings import field_offsets, in_order
from tonguegate.pictures import picture
from tonguegate.words import number_of_words, text_of_signs


def lay(store, hand, laying, kind, worth):
    """Lay the worth in the store: the address of its picture's own block."""
    return lay_block(store, hand, picture(laying, kind, worth))


def lay_block(store, hand, entries):
    """Take a block for the entries, and one for each block in them: the address of the first one."""
    address = store.take(hand, len(entries))
    put_entries(store, hand, address, entries)
    return address


def put_entries(store, hand, address, entries):
    """Put the entries at the address, and each block in them into a block that is taken for it."""
    # Blocks wait here for their turn: in a chain they stand too deep within one another for calls within calls.
    waiting = [(address, entries)]
    while waiting:
        begin, these = waiting.pop()
        for place, entry in enumerate(these):
            word = entry
            if isinstance(entry, tuple):
                word = store.take(hand, len(entry))
                waiting.append((word, entry))
            store.put(begin + place, word)


def read_laid(store, laying, kind, address):
    """The worth that the words of the thing at the address say."""
    head = kind[0]
    if head == "num":
        return number_of_words(laying[0], words_at(store, address, kind[1]))
    if head == "text":
        return text_of_signs(signs_at(store, laying, store.look(address)))
    parts = [read_laid(store, laying, inner, at) for inner, at in parts_at(store, laying, kind, address)]
    if head == "pick":
        return (field_at(store, laying, kind, address)[0], parts[0])
    return tuple(parts)


def words_at(store, address, many):
    """So many words from the address on."""
    return [store.look(address + place) for place in range(many)]


def signs_at(store, laying, block):
    """The numbers of the signs of the text in the block."""
    if laying[1] == "count":
        return words_at(store, block + 1, store.look(block))
    signs = []
    sign = store.look(block)
    while sign != 0:
        signs.append(sign)
        sign = store.look(block + len(signs))
    return signs


def parts_at(store, laying, kind, address):
    """The parts of the thing at the address, in its worth's order: a list of tuples (kind, address)."""
    head = kind[0]
    if head == "row":
        return [(kind[1], at) for at in items_at(store, laying, kind[1], address)]
    if head == "rec":
        offsets = field_offsets(laying, kind[1])
        return [(inner, address + offsets[name]) for name, inner in kind[1]]
    if head == "pick":
        return [(field_at(store, laying, kind, address)[1], address + 1)]
    return []


def items_at(store, laying, kind, address):
    """The addresses of the items, which are of the kind, of the row at the address."""
    if laying[2] == "chain":
        return [block + 1 for block in chain_blocks(store, address)]
    block = store.look(address)
    size = size_of(kind)
    return [block + 1 + item * size for item in range(store.look(block))]


def chain_blocks(store, address):
    """The addresses of the blocks of the chain at the address."""
    blocks = []
    block = store.look(address)
    while block != 0:
        blocks.append(block)
        block = store.look(block)
    return blocks


def field_at(store, laying, kind, address):
    """The field, name and kind, that the pick at the address has."""
    return in_order(laying, kind[1])[store.look(address)]


def part_at(store, laying, kind, address, path):
    """The address of the first word of the part at the path; NoPart where there is none."""
    inner = kind
    found = address
    for step in path:
        found = step_at(store, laying, inner, found, step)
        inner = step_kind(inner, step)
    return found


def step_at(store, laying, kind, address, step):
    """The address of the part that one step leads to; NoPart where there is none."""
    # This refuses what the kind has not, so that below only the words are left to look at.
    step_kind(kind, step)
    head = kind[0]
    if head == "rec":
        return address + field_offsets(laying, kind[1])[step]
    if head == "row":
        items = items_at(store, laying, kind[1], address)
        if step < len(items):
            return items[step]
        raise NoPart("the row has no such item")
    if field_at(store, laying, kind, address)[0] == step:
        return address + 1
    raise NoPart("the pick has another name")


def blocks_within(store, laying, kind, address):
    """The addresses of the blocks that the thing at the address has, but for the one in which it stands itself."""
    blocks = []
    if kind[0] == "row" and laying[2] == "chain":
        blocks += chain_blocks(store, address)
    elif kind[0] in ("text", "row"):
        blocks.append(store.look(address))
    for inner, at in parts_at(store, laying, kind, address):
        blocks += blocks_within(store, laying, inner, at)
    return blocks


def let_go(store, hand, laying, kind, address):
    """Give back all blocks of the thing at the address."""
    give_all(store, hand, blocks_within(store, laying, kind, address) + [address])


def give_all(store, hand, blocks):
    """Give back the blocks at these addresses."""
    for block in blocks:
        store.give(hand, block)
