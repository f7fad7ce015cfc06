"""The store [13], its blocks and its book [14]."""

import random
import unittest

from stores import StoreCase
from tonguegate.errors import NoBlock, NoRoom, NoWord, WrongHand
from tonguegate.store import Store


class PlainStore:
    """The store as the points tell it, word by word."""

    def __init__(self, words):
        self.words = words
        self.standing = []
        self.rows = []

    def taken(self):
        return {at for address, many, hand in self.standing for at in range(address, address + many)}

    def take(self, hand, many):
        taken = self.taken()
        for address in range(1, self.words - many + 2):
            if many >= 1 and not taken & set(range(address, address + many)):
                self.standing.append((address, many, hand))
                self.rows.append(("take", hand, address, many))
                return address
        return NoRoom

    def give(self, hand, address):
        for block in self.standing:
            if block[0] == address:
                if block[2] != hand:
                    return WrongHand
                self.standing.remove(block)
                self.rows.append(("give", hand, address))
                return None
        return NoBlock


class Taking(StoreCase):

    def test_addresses_go_from_one_on(self):
        store = Store(10)
        self.assertEqual(store.take(0, 3), 1)
        self.assertEqual(store.take(1, 2), 4)
        self.assertEqual(store.take(0, 1), 6)
        self.assertEqual(store.take(1, 4), 7)
        self.assert_refused_unchanged(store, NoRoom, store.take, 0, 1)

    def test_a_store_of_one_word(self):
        store = Store(1)
        self.assert_refused_unchanged(store, NoRoom, store.take, 0, 2)
        self.assertEqual(store.take(0, 1), 1)
        self.assert_refused_unchanged(store, NoRoom, store.take, 1, 1)
        store.put(1, 65535)
        self.assertEqual(store.look(1), 65535)
        self.assertIsNone(store.give(0, 1))
        self.assertEqual(store.take(1, 1), 1)
        self.assertEqual(store.look(1), 0)

    def test_a_store_of_the_most_words(self):
        store = Store(60000)
        self.assert_refused_unchanged(store, NoRoom, store.take, 0, 60001)
        self.assertEqual(store.take(0, 60000), 1)
        self.assert_refused(NoRoom, store.take, 1, 1)
        store.put(60000, 7)
        self.assertEqual(store.look(60000), 7)
        self.assert_refused(NoBlock, store.look, 60001)
        store.give(0, 1)
        self.assertEqual(store.take(1, 59999), 1)
        self.assert_refused(NoRoom, store.take, 1, 2)
        self.assertEqual(store.take(0, 1), 60000)

    def test_as_many_blocks_as_words(self):
        store = Store(60000)
        self.assertEqual([store.take(at & 1, 1) for at in range(60000)], list(range(1, 60001)))
        self.assert_refused(NoRoom, store.take, 0, 1)
        for address in range(2, 60001, 2):
            store.give(1, address)
        self.assert_refused(NoRoom, store.take, 0, 2)
        self.assertEqual(store.take(0, 1), 2)
        store.give(0, 59999)
        self.assertEqual(store.take(1, 3), 59998)

    def test_all_words_and_one_more(self):
        for words in (1, 2, 3, 17, 1000):
            store = Store(words)
            self.assert_refused_unchanged(store, NoRoom, store.take, 0, words + 1)
            self.assertEqual(store.take(0, words), 1)
            self.assertEqual(store.blocks(), [(1, words, 0)])

    def test_so_many_below_one(self):
        store = Store(5)
        for many in (0, -1, -5, -6, -60000, -10 ** 40):
            self.assert_refused_unchanged(store, NoRoom, store.take, 0, many)
        store.take(1, 5)
        for many in (0, -1):
            self.assert_refused_unchanged(store, NoRoom, store.take, 1, many)

    def test_far_too_many(self):
        store = Store(5)
        for many in (6, 7, 60001, 65536, 10 ** 40, 10 ** 5000):
            self.assert_refused_unchanged(store, NoRoom, store.take, 1, many)

    def test_a_gap_that_is_just_as_great_and_one_too_small(self):
        store = Store(20)
        for many in (3, 3, 4, 4, 2):
            store.take(0, many)
        store.give(0, 4)
        self.assertEqual(store.take(0, 4), 17)
        self.assertEqual(store.take(0, 3), 4)
        store.give(0, 7)
        self.assert_refused_unchanged(store, NoRoom, store.take, 0, 5)
        self.assertEqual(store.take(1, 4), 7)

    def test_the_least_of_several_gaps(self):
        store = Store(30)
        for many in (5, 1, 3, 1, 5, 1):
            store.take(0, many)
        store.give(0, 1)
        store.give(0, 7)
        store.give(0, 11)
        self.assertEqual(store.take(0, 4), 1)
        self.assertEqual(store.take(0, 2), 7)
        self.assertEqual(store.take(0, 2), 11)
        self.assertEqual(store.take(0, 1), 5)
        self.assertEqual(store.take(0, 1), 9)

    def test_gaps_that_touch_are_one(self):
        for order in ((3, 6, 9), (3, 9, 6), (6, 3, 9), (6, 9, 3), (9, 3, 6), (9, 6, 3)):
            store = Store(15)
            for many in (2, 3, 3, 3, 4):
                store.take(0, many)
            for address in order:
                store.give(0, address)
            self.assert_refused_unchanged(store, NoRoom, store.take, 0, 10)
            self.assertEqual(store.take(0, 9), 3)

    def test_words_become_0(self):
        store = Store(6)
        store.take(0, 6)
        for address in range(1, 7):
            self.assertEqual(store.look(address), 0)
            store.put(address, 1000 + address)
        store.give(0, 1)
        self.assertEqual(store.take(1, 4), 1)
        self.assertEqual([store.look(address) for address in range(1, 5)], [0, 0, 0, 0])
        self.assertEqual(store.take(0, 2), 5)
        self.assertEqual([store.look(address) for address in (5, 6)], [0, 0])

    def test_stores_are_apart(self):
        one = Store(3)
        other = Store(3)
        one.take(0, 3)
        one.put(2, 9)
        self.assertEqual(other.blocks(), [])
        self.assertEqual(other.book(), [])
        self.assertEqual(other.take(1, 3), 1)
        self.assertEqual(other.look(2), 0)


class Giving(StoreCase):

    def test_given_back_words_are_free(self):
        store = Store(4)
        store.take(0, 4)
        self.assertIsNone(store.give(0, 1))
        self.assertEqual(store.blocks(), [])
        for address in (1, 2, 3, 4):
            self.assert_refused_unchanged(store, NoBlock, store.look, address)
            self.assert_refused_unchanged(store, NoBlock, store.put, address, 1)

    def test_no_block_begins_there(self):
        store = Store(10)
        store.take(0, 4)
        store.take(1, 4)
        store.give(1, 5)
        for hand in (0, 1):
            for address in (2, 3, 4, 5, 6, 8, 9, 10, 0, -1, -4, 11, 12, 60000, 65537, -65535, 10 ** 40, -10 ** 5000):
                self.assert_refused_unchanged(store, NoBlock, store.give, hand, address)

    def test_not_twice(self):
        store = Store(10)
        store.take(0, 4)
        store.give(0, 1)
        self.assert_refused_unchanged(store, NoBlock, store.give, 0, 1)
        self.assert_refused_unchanged(store, NoBlock, store.give, 1, 1)
        store.take(1, 2)
        self.assert_refused_unchanged(store, WrongHand, store.give, 0, 1)

    def test_the_other_hand(self):
        for hand in (0, 1):
            store = Store(10)
            address = store.take(hand, 3)
            store.put(address, 5)
            self.assert_refused_unchanged(store, WrongHand, store.give, 1 - hand, address)
            self.assert_refused_unchanged(store, NoBlock, store.give, 1 - hand, address + 1)
            self.assertIsNone(store.give(hand, address))

    def test_other_blocks_stay(self):
        store = Store(10)
        for many in (2, 3, 4):
            store.take(0, many)
        for address in range(1, 10):
            store.put(address, 100 + address)
        store.give(0, 3)
        self.assertEqual(store.blocks(), [(1, 2, 0), (6, 4, 0)])
        self.assertEqual([store.look(at) for at in (1, 2, 6, 7, 8, 9)], [101, 102, 106, 107, 108, 109])


class Words(StoreCase):

    def test_least_and_greatest_word(self):
        store = Store(3)
        store.take(0, 2)
        for word in (0, 1, 65534, 65535, 0):
            self.assertIsNone(store.put(2, word))
            self.assertEqual(store.look(2), word)
            self.assertEqual(store.look(1), 0)

    def test_no_word(self):
        store = Store(3)
        store.take(1, 2)
        store.put(1, 77)
        for word in (-1, 65536, 65537, -65536, 10 ** 40, -10 ** 5000):
            self.assert_refused_unchanged(store, NoWord, store.put, 1, word)
        self.assertEqual(store.look(1), 77)

    def test_no_block_goes_ahead_of_no_word(self):
        store = Store(3)
        store.take(1, 2)
        for address in (3, 4, 0, -1):
            for word in (-1, 0, 65536):
                self.assert_refused_unchanged(store, NoBlock, store.put, address, word)

    def test_in_no_standing_block(self):
        store = Store(10)
        store.take(0, 2)
        store.take(0, 3)
        store.take(0, 2)
        store.give(0, 3)
        for address in (3, 4, 5, 8, 9, 10, 11, 12, 0, -1, -2, -9, -10, -11, 65537, 10 ** 40, -10 ** 5000):
            self.assert_refused_unchanged(store, NoBlock, store.look, address)
            self.assert_refused_unchanged(store, NoBlock, store.put, address, 5)
        for address in (1, 2, 6, 7):
            store.put(address, address)
            self.assertEqual(store.look(address), address)

    def test_either_hand_takes_words_that_are_put_by_all(self):
        store = Store(4)
        store.take(0, 1)
        store.take(1, 1)
        store.put(1, 11)
        store.put(2, 12)
        self.assertEqual((store.look(1), store.look(2)), (11, 12))


class Told(StoreCase):

    def test_blocks_by_rising_address(self):
        store = Store(20)
        self.assertEqual(store.blocks(), [])
        for hand, many in ((0, 5), (1, 2), (0, 1)):
            store.take(hand, many)
        self.assertEqual(store.blocks(), [(1, 5, 0), (6, 2, 1), (8, 1, 0)])
        store.give(0, 1)
        self.assertEqual(store.blocks(), [(6, 2, 1), (8, 1, 0)])
        store.take(1, 3)
        store.take(0, 9)
        self.assertEqual(store.blocks(), [(1, 3, 1), (6, 2, 1), (8, 1, 0), (9, 9, 0)])

    def test_the_book(self):
        store = Store(6)
        self.assertEqual(store.book(), [])
        store.take(0, 2)
        store.take(1, 3)
        store.put(1, 9)
        store.look(1)
        store.give(0, 1)
        store.take(1, 1)
        store.give(1, 3)
        self.assertEqual(store.book(), [
            ("take", 0, 1, 2), ("take", 1, 3, 3), ("give", 0, 1), ("take", 1, 1, 1), ("give", 1, 3),
        ])

    def test_the_book_is_without_what_was_refused(self):
        store = Store(4)
        store.take(0, 2)
        book = store.book()
        for refusal, asked, handed in (
            (NoRoom, store.take, (0, 3)), (NoRoom, store.take, (1, 0)), (NoBlock, store.give, (0, 2)),
            (WrongHand, store.give, (1, 1)), (NoBlock, store.look, (3,)), (NoBlock, store.put, (3, 3)),
            (NoWord, store.put, (1, 65536)),
        ):
            self.assert_refused_unchanged(store, refusal, asked, *handed)
        self.assertEqual(store.book(), book)

    def test_told_lists_are_the_askers_own(self):
        store = Store(6)
        store.take(0, 2)
        store.take(1, 2)
        for asked in (store.blocks, store.book):
            told = asked()
            kept = list(told)
            self.assertIsInstance(told, list)
            told.reverse()
            told.append(None)
            self.assertEqual(asked(), kept)
            self.assertIsNot(asked(), asked())
        blocks, book = store.blocks(), store.book()
        store.give(0, 1)
        self.assertEqual(blocks, [(1, 2, 0), (3, 2, 1)])
        self.assertEqual(book, [("take", 0, 1, 2), ("take", 1, 3, 2)])
        blocks.clear()
        book.clear()
        self.assertEqual(store.blocks(), [(3, 2, 1)])
        self.assertEqual(len(store.book()), 3)
        for row in store.blocks() + store.book():
            self.assertIsInstance(row, tuple)


class AsThePlainStore(StoreCase):

    def do_both(self, plain, store, deed, handed):
        expected = getattr(plain, deed)(*handed)
        asked = getattr(store, deed)
        if isinstance(expected, type):
            self.assert_refused_unchanged(store, expected, asked, *handed)
        else:
            self.assertEqual(asked(*handed), expected)
        self.assertEqual(store.blocks(), sorted(plain.standing))
        self.assertEqual(store.book(), plain.rows)

    def test_many_deeds(self):
        chance = random.Random(13)
        for words in (1, 2, 5, 12, 40, 40, 40, 40):
            plain = PlainStore(words)
            store = Store(words)
            for deed in range(300):
                hand = chance.randrange(2)
                if chance.randrange(2):
                    self.do_both(plain, store, "take", (hand, chance.randrange(0, 8)))
                elif plain.standing and chance.randrange(8):
                    self.do_both(plain, store, "give", (hand, chance.choice(plain.standing)[0]))
                else:
                    self.do_both(plain, store, "give", (hand, chance.randrange(-1, words + 3)))
            for address, many, hand in store.blocks():
                self.do_both(plain, store, "give", (hand, address))
            self.assertEqual(store.take(0, words), 1)


if __name__ == "__main__":
    unittest.main()
