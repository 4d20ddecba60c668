"""Point 11: two within."""

import unittest

import helper
from onewithin.errors import NoWay
from onewithin.safety import two_within


class TwoWithin(unittest.TestCase):
    def check(self, way, far):
        """A shortest run where there is any, else None, by all standings come to."""
        run = two_within(way)
        ends = [far[standing] for standing in far if helper.within_count(way, standing) >= 2]
        if not ends:
            self.assertIsNone(run)
            return
        self.assertIsInstance(run, tuple)
        self.assertEqual(len(run), min(ends))
        self.assertGreaterEqual(helper.within_count(way, helper.walk(way, helper.start(way), run)[-1]), 2)

    def test_a_careless_way(self):
        for many in (2, 3, 4):
            way = helper.careless(many)
            self.assertEqual(len(two_within(way)), 6)
            self.check(way, helper.distances(way))

    def test_within_from_outside(self):
        way = ((("whole", 2, 0),), (helper.plain_hand(1),) * 3)
        self.assertEqual(sorted(two_within(way)), sorted(set(two_within(way))))
        self.assertEqual(len(two_within(way)), 2)

    def test_later_hands_alone(self):
        never = (0, 2, (("look", 0, (), 1), ("write", 0, 1)))
        way = ((("whole", 2, 0),), (never, helper.plain_hand(3), never, helper.plain_hand(2)))
        run = two_within(way)
        self.assertEqual(len(run), 5)
        self.assertEqual({hand for hand, told in run}, {1, 3})

    def test_never(self):
        for way in (helper.peterson(), helper.dekker(), helper.turns(2), helper.turns(4), helper.flags(2),
                    helper.flags(4), helper.onebit()):
            self.assertIsNone(two_within(way))
            self.check(way, helper.distances(way))

    def test_never_of_one_hand(self):
        for way in (helper.careless(1), helper.flags(1), ((("whole", 2, 0),), (helper.plain_hand(1),))):
            self.assertIsNone(two_within(way))

    def test_amid_a_writing_a_hand_is_within_too(self):
        # Amid the writing of 0 at its row within a hand that looks may be told 0 already.
        for kind in ("either", "torn"):
            for way in (helper.flags(2, kind), helper.flags(3, kind), helper.onebit(kind)):
                far = helper.distances(way)
                self.check(way, far)
                last = helper.walk(way, helper.start(way), two_within(way))[-1]
                self.assertEqual([spot % 2 for spot in last[0]].count(1), 1)

    def test_leaving_is_not_within(self):
        once = (0, 1, (("write", 0, 1), ("look", 0, (), 2)))
        after = (0, 2, (("look", 0, (1,), 1), ("look", 0, (), 2)))
        self.assertIsNone(two_within(((("whole", 2, 0),), (once, after))))

    def test_a_kind_that_breaks(self):
        # By a torn look of 2, which nobody writes, the second hand goes in beside the first.
        writer = (0, 1, (("write", 0, 1), ("write", 0, 0)))
        looker = (0, 2, (("look", 0, (2,), 1), ("look", 0, (), 2)))
        self.assertIsNone(two_within(((("whole", 3, 0),), (writer, looker))))
        self.assertIsNone(two_within(((("either", 3, 0),), (writer, looker))))
        self.assertEqual(len(two_within(((("torn", 3, 0),), (writer, looker)))), 4)

    def test_random_ways(self):
        for way, far in helper.small_ways(300, 200):
            self.check(way, far)

    def test_no_way(self):
        for odd in helper.ODD:
            with self.assertRaises(NoWay):
                two_within(odd)


if __name__ == "__main__":
    unittest.main()
