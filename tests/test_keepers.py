"""The plain keeper [24], [25], [26]."""

import unittest

from keeping import KeeperTests
from refusals import RefusalCase
from samples import NUM, POINT, SHAPE, TRACK, snapshot
from things import ROW
from tonguegate.keepers import PlainKeeper


class Plain(KeeperTests, RefusalCase):

    def new_keepers(self):
        return [PlainKeeper() for keeper in range(10)]

    def test_the_book_has_no_other_rows(self):
        keeper = PlainKeeper()
        keeper.make(0, SHAPE, TRACK)
        keeper.share(0)
        keeper.read(1, 0)
        keeper.put(1, 0, ("path", 0), 9)
        keeper.grow(0, 1, ("path",), 9)
        self.assertEqual(keeper.book(), [("make", 0, 0), ("share", 0, 1), ("read", 1, 0), ("put", 1, 0), ("grow", 0, 1)])

    def test_rows_somewhat_beyond_the_limit(self):
        keeper = PlainKeeper()
        thing = keeper.make(0, ROW, (1,) * 62)
        self.assertEqual(keeper.read(0, thing), (1,) * 62)

    def test_nothing_that_is_handed_in_is_changed(self):
        handed = [POINT, (1, 2), ("x",), 7, NUM]
        before = snapshot(handed)
        keeper = PlainKeeper()
        thing = keeper.make(0, handed[0], handed[1])
        keeper.put(0, thing, handed[2], handed[3])
        self.assertEqual(keeper.read(0, thing), (7, 2))
        self.assertEqual(handed, before)


if __name__ == "__main__":
    unittest.main()
