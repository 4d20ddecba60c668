"""Points 13 and 14: runs out of turn, and goings-in ahead of a hand."""

import copy
import unittest

import helper
import truths
from onewithin.errors import NoHand, NoWay, TooMany
from onewithin.turns import most_goings, out_of_turn


class OutOfTurn(unittest.TestCase):
    def walk(self, way, hand, other):
        """The run told, once it is one out of turn."""
        run = out_of_turn(way, hand, other)
        self.assertIsInstance(run, tuple)
        along = helper.walk(way, helper.start(way), run)
        self.assertEqual(helper.part(way, along[-1], other), "within")
        since = [standing for standing in along]
        while since and helper.waits(way, since[-1], hand):
            if helper.part(way, since[-1], other) == "outside":
                return run
            since.pop()
        self.fail("it hasn't waited since the other was outside")

    def check(self, way, far, hand, other):
        expected = truths.shortest_out_of_turn(way, far, hand, other)
        if expected is None:
            self.assertIsNone(out_of_turn(way, hand, other), (way, hand, other))
        else:
            self.assertEqual(len(self.walk(way, hand, other)), expected, (way, hand, other))
        return expected is not None

    def test_peterson_is_in_turn(self):
        for hand in (0, 1):
            self.assertIsNone(out_of_turn(helper.peterson(), hand, 1 - hand))

    def test_dekker_is_not(self):
        way = helper.dekker()
        # Hand 1 gives way at once, as it isn't its turn; hand 0 has first to be within and to give its turn away.
        self.assertEqual(len(self.walk(way, 1, 0)), 8)
        self.assertEqual(len(self.walk(way, 0, 1)), 13)

    def test_known_ways(self):
        for way in (helper.peterson(), helper.dekker(), helper.turns(2), helper.turns(3), helper.flags(3),
                    helper.onebit(), helper.onebit("torn"), helper.careless(3)):
            far = helper.distances(way)
            for hand in range(len(way[1])):
                for other in range(len(way[1])):
                    if hand != other:
                        self.check(way, far, hand, other)

    def test_the_doorway_doesnt_count(self):
        rows = (("look", 0, (0, 1), 1), ("look", 0, (0, 1), 1), ("write", 0, 0))
        quick = helper.plain_hand(1)
        # Hand 0 may be passed while it waits at row 2, where row 1 is its doorway; never where both are.
        way = ((("whole", 2, 0),), ((1, 3, rows), quick))
        self.assertEqual(self.walk(way, 0, 1), ((0, None), (0, 0), (1, None)))
        way = ((("whole", 2, 0),), ((2, 3, rows), quick))
        self.assertIsNone(out_of_turn(way, 0, 1))
        way = ((("whole", 2, 0),), ((0, 3, rows), quick))
        self.assertEqual(self.walk(way, 0, 1), ((0, None), (1, None)))

    def test_the_other_has_to_be_outside_while_the_hand_waits(self):
        # Hand 1 comes out of its row 1 just where hand 0 isn't waiting yet, and so never from outside.
        hand = (1, 3, (("write", 0, 1), ("look", 0, (), 2), ("write", 0, 0)))
        other = (0, 2, (("look", 0, (0,), 1), ("look", 0, (), 2)))
        way = ((("whole", 2, 0),), (hand, other))
        self.assertIsNone(out_of_turn(way, 0, 1))
        # The hand waits while the other goes in, but hasn't since it was outside.
        other = (0, 3, (("look", 0, (0,), 1), ("look", 0, (0, 1), 1), ("look", 0, (), 3)))
        way = ((("whole", 2, 0),), (hand, other))
        self.assertIsNone(out_of_turn(way, 0, 1))
        self.assertEqual(most_goings(way, 0), 1)

    def test_a_hand_that_leaves_its_waiting_begins_anew(self):
        # Back in its doorway hand 0 lets hand 1 go on; while it waits hand 1 can't.
        hand = (2, 4, (("write", 0, 1), ("write", 0, 0), ("look", 0, (), 1), ("write", 0, 0)))
        other = (0, 2, (("look", 0, (1,), 1), ("look", 0, (), 2)))
        way = ((("whole", 2, 0),), (hand, other))
        self.assertFalse(self.check(way, helper.distances(way), 0, 1))

    def test_of_other_hands_the_two_alone_are_asked(self):
        never = (0, 2, (("look", 0, (), 1), ("write", 0, 0)))
        way = ((("whole", 2, 0),), (never, helper.plain_hand(1), never, helper.plain_hand(2)))
        self.assertEqual(self.walk(way, 0, 1), ((0, None), (1, None)))
        self.assertEqual(len(self.walk(way, 2, 3)), 3)
        self.assertIsNone(out_of_turn(way, 0, 2))
        self.assertIsNone(out_of_turn(way, 1, 3))

    def test_random_ways(self):
        found = 0
        asked = 0
        for way, far in helper.small_ways(300, 60):
            for hand in range(len(way[1])):
                for other in range(len(way[1])):
                    if hand != other:
                        found += self.check(way, far, hand, other)
                        asked += 1
        self.assertTrue(asked // 10 < found < asked - asked // 10, (found, asked))

    def test_near_3000_standings(self):
        way = helper.just_3000()
        self.assertEqual(len(self.walk(way, 0, 1)), 10)
        self.assertEqual(len(self.walk(way, 2, 3)), 2)
        self.assertIsNone(out_of_turn(way, 3, 0))


class Goings(unittest.TestCase):
    def test_known_ways(self):
        for hand in (0, 1):
            self.assertEqual(most_goings(helper.peterson(), hand), 1)
            self.assertIsNone(most_goings(helper.dekker(), hand))
        for many in (2, 3, 4):
            for hand in range(many):
                self.assertEqual(most_goings(helper.turns(many), hand), many - 1)
        # Row 1 is no doorway there: while hand 0 hasn't written yet hand 1 goes in again and again.
        for hand in (0, 1):
            self.assertIsNone(most_goings(helper.onebit(), hand))
        self.assertEqual([most_goings(helper.flags(3), hand) for hand in range(3)], [1, 1, 0])

    def test_known_ways_by_all_runs(self):
        for way in (helper.peterson(), helper.dekker(), helper.turns(3), helper.flags(3), helper.flags(3, "either"),
                    helper.onebit(), helper.onebit("torn"), helper.careless(2)):
            far = helper.distances(way)
            for hand in range(len(way[1])):
                self.assertEqual(most_goings(way, hand), truths.greatest(way, far, hand), (way, hand))

    def test_0_where_it_never_waits(self):
        quick = helper.plain_hand(1)
        way = ((("whole", 2, 0),), (quick, quick, (2, 3, helper.plain_hand(3)[2])))
        for hand in range(3):
            self.assertEqual(most_goings(way, hand), 0)
        # There are rows at which it would wait, but it never comes to them.
        shut = (1, 3, (("look", 0, (), 1), ("look", 0, (), 2), ("write", 0, 0)))
        self.assertEqual(most_goings(((("whole", 2, 0),), (shut, quick)), 0), 0)
        self.assertEqual(most_goings(((("whole", 2, 0),), (helper.plain_hand(2),)), 0), 0)

    def test_no_end_of_them(self):
        # Nobody has to let a hand step on: it waits while the other one goes in and out.
        way = ((("whole", 2, 0),), (helper.plain_hand(2), helper.plain_hand(1)))
        self.assertIsNone(most_goings(way, 0))
        self.assertEqual(most_goings(way, 1), 0)

    def test_a_ring_of_others_without_goings_in_has_an_end(self):
        waits = (0, 2, (("look", 0, (), 1), ("write", 0, 0)))
        way = ((("whole", 2, 0),), (waits, waits))
        self.assertEqual(most_goings(way, 0), 0)
        # Hand 1 goes in once and then never leaves.
        way = ((("whole", 2, 0),), (waits, (0, 1, (("look", 0, (), 1),)), (0, 1, (("look", 0, (), 1),))))
        self.assertEqual(most_goings(way, 0), 2)

    def test_many_and_each_once_while_it_waits_once(self):
        # Hand 1 goes in at most once for each time that hand 0 has written 0; behind rows 2 and 4, or a round ago.
        other = (0, 3, (("look", 0, (1,), 1), ("look", 0, (0,), 2), ("write", 1, 0)))
        for door, most in ((0, 2), (1, 1), (2, 1), (3, 0)):
            hand = (door, 5, tuple(("write", 0, value) for value in (1, 0, 1, 0, 0)))
            way = ((("whole", 2, 0),) * 2, (hand, other))
            self.assertEqual(most_goings(way, 0), most)
            self.assertEqual(truths.greatest(way, helper.distances(way), 0), most)

    def test_going_back_to_the_doorway_ends_a_waiting(self):
        # Hand 1 goes in once for each time that hand 0 goes through its doorway again.
        hand = (1, 3, (("write", 0, 1), ("look", 0, (), 1), ("write", 0, 0)))
        other = (0, 3, (("look", 0, (1,), 1), ("write", 0, 0), ("look", 0, (0, 1), 3)))
        way = ((("whole", 2, 0),), (hand, other))
        self.assertEqual(most_goings(way, 0), 1)

    def test_amid_a_writing_nobody_comes_within_twice(self):
        # Hand 1 is amid the writing of its row within: no step there is one more going-in.
        waits = (0, 2, (("look", 0, (1,), 1), ("look", 0, (0, 1), 2)))
        for kind in helper.KINDS:
            once = (0, 1, (("write", 0, 1), ("look", 0, (), 2)))
            self.assertEqual(most_goings((((kind, 2, 0),), (waits, once)), 0), 1)

    def test_random_ways(self):
        told = []
        for way, far in helper.small_ways(400, 60):
            for hand in range(len(way[1])):
                told.append(most_goings(way, hand))
                self.assertEqual(told[-1], truths.greatest(way, far, hand), (way, hand))
        self.assertGreater(told.count(None), 50)
        self.assertGreater(len([number for number in told if number]), 20)

    def test_near_3000_standings(self):
        way = helper.just_3000()
        self.assertIsNone(most_goings(way, 0))
        self.assertEqual(most_goings(way, 3), 0)

    def test_too_many_runs_to_try(self):
        # Hand 1 goes in for each 0 that hand 0 writes or wrote a round ago; hand 2 turns round all the time.
        hand = (0, 16, tuple(("write", 0, value % 2) for value in range(1, 17)))
        other = (0, 3, (("look", 0, (1,), 1), ("look", 0, (0,), 2), ("look", 0, (0, 1), 3)))
        round_about = (0, 4, (("look", 0, (0, 1), 1), ("look", 0, (0, 1), 1), ("look", 0, (), 1), ("look", 0, (), 4)))
        way = ((("whole", 2, 0),), (hand, other, round_about))
        self.assertEqual(most_goings(way, 0), 8)


class Refusals(unittest.TestCase):
    def test_no_way_then_no_hand_then_too_many(self):
        for odd in helper.ODD:
            with self.assertRaises(NoWay):
                out_of_turn(odd, odd, odd)
            with self.assertRaises(NoWay):
                most_goings(odd, odd)
            for way in (helper.peterson(), helper.vast()):
                with self.assertRaises(NoHand):
                    out_of_turn(way, odd, 0)
                with self.assertRaises(NoHand):
                    out_of_turn(way, 0, odd)
                with self.assertRaises(NoHand):
                    most_goings(way, odd)
        for hand in (-1, 2, 3):
            with self.assertRaises(NoHand):
                out_of_turn(helper.peterson(), hand, 0)
            with self.assertRaises(NoHand):
                out_of_turn(helper.peterson(), 1, hand)
            with self.assertRaises(NoHand):
                most_goings(helper.peterson(), hand)

    def test_both_the_same(self):
        for way in (helper.peterson(), helper.vast()):
            for hand in (0, 1):
                with self.assertRaises(NoHand):
                    out_of_turn(way, hand, hand)
        with self.assertRaises(NoWay):
            out_of_turn(None, 0, 0)

    def test_too_many(self):
        for way in (helper.vast(), helper.just_3001()):
            with self.assertRaises(TooMany):
                out_of_turn(way, 0, 1)
            with self.assertRaises(TooMany):
                most_goings(way, 0)

    def test_nothing_changes(self):
        way = helper.dekker()
        kept = copy.deepcopy(way)
        first = out_of_turn(way, 0, 1), most_goings(way, 0)
        self.assertEqual((out_of_turn(way, 0, 1), most_goings(way, 0)), first)
        self.assertEqual(way, kept)


if __name__ == "__main__":
    unittest.main()
