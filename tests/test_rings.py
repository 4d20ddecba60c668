"""Point 12: fair rings, by which a hand is kept out and by which all are stuck."""

import unittest

import helper
import truths
from onewithin.errors import NoHand, NoWay, TooMany
from onewithin.rings import kept_out, stuck


class Rings(unittest.TestCase):
    def walk_ring(self, way, told):
        """All standings along the ring, once it is one at a standing come to, and fair."""
        self.assertIsInstance(told, tuple)
        run, ring = told
        self.assertIsInstance(run, tuple)
        self.assertIsInstance(ring, tuple)
        self.assertGreaterEqual(len(ring), 1)
        base = helper.walk(way, helper.start(way), run)[-1]
        along = helper.walk(way, base, ring)
        self.assertEqual(along[-1], base)
        for hand in range(len(way[1])):
            stepping = any(who == hand for who, told in ring)
            self.assertTrue(stepping or all(standing[0][hand] == 0 for standing in along), hand)
        return along

    def walk_kept(self, way, hand):
        told = kept_out(way, hand)
        along = self.walk_ring(way, told)
        self.assertTrue(all(helper.on_its_way(way, standing, hand) for standing in along))
        return told

    def walk_stuck(self, way):
        told = stuck(way)
        along = self.walk_ring(way, told)
        self.assertTrue(all(any(standing[0]) for standing in along))
        for (hand, number), ahead, behind in zip(told[1], along, along[1:]):
            self.assertFalse(helper.comes_in(way, ahead, behind, hand))
        return told

    def check_kept(self, way, far, hand):
        if truths.kept_ring(way, far, hand) is not None:
            self.walk_kept(way, hand)
            return True
        self.assertIsNone(kept_out(way, hand), (way, hand))
        return False

    def check_stuck(self, way, far):
        if truths.stuck_ring(way, far) is not None:
            self.walk_stuck(way)
            return True
        self.assertIsNone(stuck(way), way)
        return False


class KnownWays(Rings):
    def test_peterson_and_dekker(self):
        for hand in (0, 1):
            self.assertIsNone(kept_out(helper.peterson(), hand))
            self.assertIsNone(kept_out(helper.dekker(), hand))
        self.assertIsNone(stuck(helper.peterson()))
        self.assertIsNone(stuck(helper.dekker()))

    def test_flags_stick(self):
        for many in (2, 3, 4):
            way = helper.flags(many)
            told = self.walk_stuck(way)
            for hand in range(many):
                self.walk_kept(way, hand)
            self.assertGreaterEqual(len({hand for hand, number in told[1]}), 2)

    def test_turns_wait_for_hands_that_stay_outside(self):
        for many in (2, 3, 4):
            way = helper.turns(many)
            for hand in range(many):
                told = self.walk_kept(way, hand)
            self.assertEqual(told[1], ((many - 1, 0),))
            self.assertEqual(self.walk_stuck(way)[1], ((1, 0),))

    def test_onebit_keeps_out_but_never_sticks(self):
        way = helper.onebit()
        self.assertIsNone(kept_out(way, 0))
        self.walk_kept(way, 1)
        self.assertIsNone(stuck(way))

    def test_known_ways_by_all_rings(self):
        for way in (helper.peterson(), helper.dekker(), helper.flags(2), helper.flags(2, "torn"), helper.turns(3),
                    helper.onebit(), helper.onebit("either"), helper.careless(2)):
            far = helper.distances(way)
            self.check_stuck(way, far)
            for hand in range(len(way[1])):
                self.check_kept(way, far, hand)


class SmallRings(Rings):
    def test_one_step_that_changes_nothing(self):
        way = ((("whole", 2, 0),), ((0, 2, (("look", 0, (), 1), ("write", 0, 1))),))
        self.assertEqual(kept_out(way, 0), (((0, None),), ((0, 0),)))
        self.assertEqual(stuck(way), (((0, None),), ((0, 0),)))

    def test_one_hand_that_always_comes_through(self):
        for way in (helper.careless(1), helper.flags(1), ((("torn", 2, 0),), (helper.plain_hand(1),))):
            self.assertIsNone(kept_out(way, 0))
            self.assertIsNone(stuck(way))

    def test_a_ring_through_outside_keeps_nobody_out(self):
        # Hand 0 goes through again and again, and so hand 1 looks in vain; nobody else is kept out.
        busy = (0, 2, (("write", 0, 1), ("write", 0, 0)))
        never = (0, 2, (("look", 0, (), 1), ("write", 1, 1)))
        way = ((("whole", 2, 0),) * 2, (busy, never))
        self.assertIsNone(kept_out(way, 0))
        self.walk_kept(way, 1)

    def test_staying_within_is_stuck_but_not_kept_out(self):
        way = ((("whole", 2, 0),), ((0, 1, (("look", 0, (1,), 1),)),))
        self.assertIsNone(kept_out(way, 0))
        self.assertEqual(stuck(way), (((0, None),), ((0, 0),)))

    def test_leaving_for_ever_is_stuck_but_not_kept_out(self):
        way = ((("whole", 2, 0),), ((0, 1, (("write", 0, 0), ("look", 0, (1,), 2))),))
        self.assertIsNone(kept_out(way, 0))
        self.assertEqual(self.walk_stuck(way)[1], ((0, 0),))

    def test_a_hand_behind_within_is_no_ring_of_itself(self):
        # Hand 1 waits just while hand 0 is between its two writings, where hand 0 can't stay.
        busy = (0, 1, (("write", 0, 1), ("write", 0, 0)))
        waits = (0, 2, (("look", 0, (0,), 1), ("look", 0, (0, 1), 2)))
        way = ((("whole", 2, 0),), (busy, waits))
        far = helper.distances(way)
        self.assertTrue(self.check_kept(way, far, 1))
        self.assertFalse(self.check_stuck(way, far))

    def test_an_unfair_ring_is_none(self):
        # Hand 1 looks in vain for ever just where hand 0, who isn't outside, takes no step.
        once = (0, 2, (("write", 0, 1), ("write", 0, 0), ("look", 0, (0,), 3)))
        waits = (0, 2, (("look", 0, (0, 1), 1), ("look", 0, (0,), 2)))
        way = ((("whole", 2, 0),), (once, waits))
        far = helper.distances(way)
        self.assertFalse(self.check_kept(way, far, 1))
        self.assertFalse(self.check_kept(way, far, 0))

    def test_hands_that_stay_outside_need_no_step(self):
        never = (0, 2, (("look", 0, (), 1), ("write", 0, 0)))
        way = ((("whole", 2, 0),), (helper.plain_hand(3), never, helper.plain_hand(2)))
        self.assertEqual(self.walk_kept(way, 1), (((1, None),), ((1, 0),)))
        self.assertEqual(self.walk_stuck(way), (((1, None),), ((1, 0),)))

    def test_the_doorway_is_on_its_way_too(self):
        way = ((("whole", 2, 0),), ((1, 2, (("look", 0, (), 1), ("write", 0, 0))),))
        self.walk_kept(way, 0)

    def test_a_torn_look_may_keep_out(self):
        # Hand 0 comes through whenever it is told the truth; amid the writing of hand 1 it may be told otherwise.
        waits = (0, 2, (("look", 0, (0,), 1), ("look", 0, (0, 1, 2), 2)))
        writes = (0, 2, (("write", 0, 0), ("look", 0, (0,), 2)))
        for kind, kept in (("whole", False), ("either", False), ("torn", True)):
            way = (((kind, 3, 0),), (waits, writes))
            self.assertEqual(self.check_kept(way, helper.distances(way), 0), kept, kind)

    def test_all_rings_of_random_ways(self):
        kept = 0
        sticking = 0
        asked = 0
        for way, far in helper.small_ways(400, 60):
            sticking += self.check_stuck(way, far)
            for hand in range(len(way[1])):
                kept += self.check_kept(way, far, hand)
                asked += 1
        # Both answers are told often enough to be tried.
        self.assertTrue(50 < sticking < 350, sticking)
        self.assertTrue(asked // 10 < kept < asked - asked // 10, (kept, asked))

    def test_the_same_each_time(self):
        self.assertEqual(kept_out(helper.flags(3), 1), kept_out(helper.flags(3), 1))
        self.assertEqual(stuck(helper.flags(3)), stuck(helper.flags(3)))


class LongRings(Rings):
    def test_a_ring_through_all_that_is_counted(self):
        way = helper.long_ring()
        told = self.walk_kept(way, 0)
        self.assertGreater(len(told[1]), 300)

    def test_ways_of_long_runs(self):
        way = helper.long_run()
        for hand in range(3):
            self.walk_kept(way, hand)
        self.walk_stuck(way)

    def test_near_3000_standings(self):
        way = helper.just_3000()
        for hand in range(4):
            self.assertIsNone(kept_out(way, hand))
        self.assertIsNone(stuck(way))
        never = (0, 2, (("look", 0, (), 1), ("write", 0, 0)))
        way = ((("whole", 2, 0),), (helper.plain_hand(14), helper.plain_hand(9), helper.plain_hand(9), never))
        self.assertEqual(len(helper.distances(way)), 3000)
        for hand in range(3):
            self.assertIsNone(kept_out(way, hand))
        self.walk_kept(way, 3)
        self.walk_stuck(way)

    def test_all_have_to_step_in_a_wide_knot(self):
        # Each hand goes round ahead of within for ever, with no step that changes nothing.
        rows = tuple(("look", 0, (0, 1), 1) for _ in range(11)) + (("look", 0, (), 1), ("write", 0, 0))
        way = ((("whole", 2, 0),), ((0, 13, rows),) * 3)
        told = self.walk_kept(way, 2)
        self.assertEqual(len(told[1]), 12)
        way = ((("whole", 2, 0),), ((0, 13, rows), (0, 13, rows[:-1] + (("write", 0, 1),))))
        self.walk_stuck(way)


class Refusals(unittest.TestCase):
    def test_no_way_then_no_hand_then_too_many(self):
        for odd in helper.ODD:
            with self.assertRaises(NoWay):
                kept_out(odd, odd)
            with self.assertRaises(NoWay):
                stuck(odd)
            with self.assertRaises(NoHand):
                kept_out(helper.peterson(), odd)
            with self.assertRaises(NoHand):
                kept_out(helper.vast(), odd)
        for hand in (-1, 2, 3):
            with self.assertRaises(NoHand):
                kept_out(helper.peterson(), hand)
        for way in (helper.vast(), helper.just_3001()):
            with self.assertRaises(TooMany):
                kept_out(way, 2)
            with self.assertRaises(TooMany):
                stuck(way)


if __name__ == "__main__":
    unittest.main()
