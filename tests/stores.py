"""How the tests look at a store."""

from refusals import RefusalCase


def words_of(store):
    """By address, every word that stands in the store."""
    return {at: store.look(at) for address, many, hand in store.blocks() for at in range(address, address + many)}


def state(store):
    """All that a store tells."""
    return words_of(store), store.blocks(), store.book()


class StoreCase(RefusalCase):

    def assert_refused_unchanged(self, store, refusal, asked, *handed):
        """It is refused with just this class, and neither words nor blocks nor book are others afterwards."""
        before = state(store)
        self.assert_refused(refusal, asked, *handed)
        self.assertEqual(state(store), before)
