"""How the tests look at things laid in a store."""

from stores import StoreCase
from tonguegate.laid import lay
from tonguegate.pictures import picture
from tonguegate.store import Store


def gapped(words=4000):
    """A store with gaps of one to six words between blocks of both hands, and all the rest free."""
    store = Store(words)
    gaps = []
    for many in (1, 2, 1, 3, 2, 6, 1, 4):
        gaps.append(store.take(1, many))
        address = store.take(many & 1, 2)
        store.put(address, 60000 + many)
    for address in gaps:
        store.give(1, address)
    return store


class LaidCase(StoreCase):

    def within(self, store, address, entries):
        """Look that the entries stand at the address word for word; the blocks in them, as (address, words)."""
        found = []
        waiting = [(address, entries)]
        while waiting:
            begin, these = waiting.pop()
            for place, entry in enumerate(these):
                word = store.look(begin + place)
                if isinstance(entry, tuple):
                    found.append((word, len(entry)))
                    waiting.append((word, entry))
                else:
                    self.assertEqual(word, entry)
        return found

    def blocks_of(self, store, hand, laying, kind, address, worth):
        """Look that the worth is laid at the address by the hand; its blocks, as the store tells them."""
        entries = picture(laying, kind, worth)
        found = [(address, len(entries))] + self.within(store, address, entries)
        blocks = [(begin, many, hand) for begin, many in found]
        self.assertEqual(len(set(blocks)), len(blocks))
        self.assertLessEqual(set(blocks), set(store.blocks()))
        return blocks

    def assert_stand(self, store, before, *things):
        """In the store stand just the blocks from before and those of the things, none of them twice."""
        blocks = list(before)
        for thing in things:
            blocks += self.blocks_of(store, *thing)
        self.assertEqual(sorted(blocks), store.blocks())

    def assert_least_places(self, words, book):
        """Each block of the book was taken at the least place of its moment, and given back by its hand."""
        plain = {}
        for row in book:
            if row[0] == "give":
                self.assertEqual(plain.pop(row[2])[1], row[1])
                continue
            deed, hand, address, many = row
            self.assertEqual(self.least(words, plain, many), address)
            plain[address] = (many, hand)

    def least(self, words, plain, many):
        """The least address at which so many words are free."""
        address = 1
        for begin, (length, hand) in sorted(plain.items()):
            if begin - address >= many:
                break
            address = begin + length
        self.assertLessEqual(address + many - 1, words, "no room")
        return address

    def laid(self, laying, kind, worth, hand=0):
        """A store with gaps in which the worth is laid: the store, the address, and the blocks that stood before."""
        store = gapped()
        before = store.blocks()
        return store, lay(store, hand, laying, kind, worth), before
