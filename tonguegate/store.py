"""The store of words, out of which hands take blocks and into which they give them back."""

from tonguegate.errors import NoBlock, NoRoom, NoWord, WrongHand
from tonguegate.words import is_word


class Store:
    """So many words, with addresses from 1 on; at first all are free."""

    def __init__(self, words):
        self.words = words
        # One cell for each address, the one at 0 never used; None where the word is free.
        self.cells = [None] * (words + 1)
        # The gaps by rising address: the first free address of each and the first one behind it.
        self.gaps = [(1, words + 1)]
        # By the address of each standing block, how many words it has and which hand took it.
        self.held = {}
        self.deeds = []

    def take(self, hand, many):
        """Take a block of so many words: its address, or NoRoom."""
        if many < 1:
            raise NoRoom("a block has at least one word")
        place = self.first_gap(many)
        begin, end = self.gaps[place]
        rest = begin + many
        self.gaps[place:place + 1] = [(rest, end)] if rest < end else []
        self.cells[begin:rest] = [0] * many
        self.held[begin] = (many, hand)
        self.deeds.append(("take", hand, begin, many))
        return begin

    def first_gap(self, many):
        """The place in the list of gaps of the first one with so many words; NoRoom where there is none."""
        for place, (begin, end) in enumerate(self.gaps):
            if end - begin >= many:
                return place
        raise NoRoom("nowhere do so many free words stand in a row")

    def give(self, hand, address):
        """Give back the block that begins at the address; NoBlock, then WrongHand."""
        if address not in self.held:
            raise NoBlock("no standing block begins at this address")
        many, taker = self.held[address]
        if hand != taker:
            raise WrongHand("the other hand took this block")
        del self.held[address]
        self.cells[address:address + many] = [None] * many
        self.widen(address, address + many)
        self.deeds.append(("give", hand, address))

    def widen(self, begin, end):
        """Make the words from begin to end a gap, one with the gaps that they touch."""
        place = self.gaps_ahead(begin)
        if place < len(self.gaps) and self.gaps[place][0] == end:
            end = self.gaps.pop(place)[1]
        if place > 0 and self.gaps[place - 1][1] == begin:
            place -= 1
            begin = self.gaps.pop(place)[0]
        self.gaps.insert(place, (begin, end))

    def gaps_ahead(self, address):
        """How many gaps begin ahead of the address."""
        low = 0
        high = len(self.gaps)
        while low < high:
            middle = (low + high) // 2
            if self.gaps[middle][0] < address:
                low = middle + 1
            else:
                high = middle
        return low

    def look(self, address):
        """The word at the address; NoBlock where it lies in no standing block."""
        word = self.cells[address] if 1 <= address <= self.words else None
        if word is None:
            raise NoBlock("the address lies in no standing block")
        return word

    def put(self, address, word):
        """Put the word at the address; NoBlock as for looking, then NoWord."""
        self.look(address)
        if not is_word(word):
            raise NoWord("no whole number from 0 to 65535")
        self.cells[address] = word

    def blocks(self):
        """The standing blocks by rising address: a list of tuples (address, words, hand)."""
        return [(address, many, hand) for address, (many, hand) in sorted(self.held.items())]

    def book(self):
        """What was done, in order: a list of tuples ("take", hand, address, words) and ("give", hand, address)."""
        return list(self.deeds)
