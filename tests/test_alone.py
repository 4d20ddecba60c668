"""Points 16 and 17: a hand alone, and one that goes in hidden."""

import copy
import unittest

import helper
from onewithin.alone import alone, hidden
from onewithin.errors import NoHand, NoWay


def row_of(way, standing, hand):
    place = helper.places(standing)[hand]
    return way[1][hand][2][place - 1] if place else None


def trace(way, standing, hand):
    """The standings along the steps of one hand alone, and the steps, until it comes round."""
    along = [standing]
    run = []
    while along[-1] not in along[:-1]:
        for told in (None, 0, 1, 2, 3, 4):
            behind = helper.take(way, along[-1], hand, told)
            if behind is not None:
                run.append((hand, told))
                along.append(behind)
                break
    return along, run


def alone_by_trace(way, hand):
    along, run = trace(way, helper.start(way), hand)
    parts = [helper.part(way, standing, hand) for standing in along]
    inside = parts.index("within") if "within" in parts else None
    return inside, parts.index("outside", 1) if "outside" in parts[1:] else None


def hidden_by_trace(way, hand, other):
    run = ()
    standing = helper.start(way)
    for number, who in enumerate((hand, other, hand)):
        along, steps = trace(way, standing, who)
        ends = [at for at, here in enumerate(along)
                if helper.part(way, here, who) == "within"
                or number == 0 and (row_of(way, here, who) or ("",))[0] == "write"]
        if not ends:
            return None
        run += tuple(steps[:ends[0]])
        standing = along[ends[0]]
    return run


class Alone(unittest.TestCase):
    def test_known_ways(self):
        for hand in (0, 1):
            self.assertEqual(alone(helper.peterson(), hand), (4, 5))
            self.assertEqual(alone(helper.dekker(), hand), (3, 5))
        for many in (1, 2, 3, 4):
            for hand in range(many):
                self.assertEqual(alone(helper.flags(many), hand), (many + 1, many + 2))
        self.assertEqual(alone(helper.onebit(), 0), (4, 5))
        self.assertEqual(alone(helper.onebit(), 1), (5, 6))

    def test_a_writing_of_another_kind_takes_two_steps(self):
        for kind in ("either", "torn"):
            self.assertEqual(alone(helper.flags(3, kind), 0), (5, 7))

    def test_turns_let_the_first_one_in_alone(self):
        for many in (2, 3, 4):
            self.assertEqual(alone(helper.turns(many), 0), (2, 3))
            for hand in range(1, many):
                self.assertEqual(alone(helper.turns(many), hand), (None, None))

    def test_what_never_comes(self):
        stays = (0, 1, (("look", 0, (), 1),))
        leaves_for_ever = (0, 1, (("write", 0, 1), ("write", 0, 0), ("look", 0, (1,), 3)))
        never = (0, 2, (("look", 0, (), 1), ("write", 0, 0)))
        way = ((("whole", 2, 0),), (stays, leaves_for_ever, never, helper.plain_hand(1)))
        self.assertEqual([alone(way, hand) for hand in range(4)], [(1, None), (1, None), (None, None), (1, 2)])

    def test_a_look_behind_within_can_lead_on_or_back(self):
        # The hand looks back once, writes and comes out then.
        hand = (0, 1, (("write", 0, 0), ("look", 0, (0,), 5), ("write", 0, 1), ("look", 0, (), 2), ("write", 0, 0)))
        way = ((("whole", 2, 0),), (hand,))
        self.assertEqual(alone(way, 0), (1, 7))

    def test_a_long_count(self):
        for boxes in (2, 3):
            count = helper.count_rows(1, range(boxes), 4 * boxes + 2)
            rows = count + (helper.jump(4 * boxes + 3), helper.jump(1), ("write", 0, 0))
            way = ((("whole", 2, 0),) * boxes, ((0, 4 * boxes + 3, rows),))
            self.assertEqual(alone(way, 0), alone_by_trace(way, 0))
            self.assertGreater(alone(way, 0)[0], 4 * 2 ** boxes)

    def test_rings_of_many_steps_are_seen_to_be_rings(self):
        count = helper.count_rows(1, (0, 1, 2), 13)
        way = ((("whole", 2, 0),) * 3, ((0, 15, count + (helper.jump(1), helper.jump(1), ("write", 0, 0))),))
        self.assertEqual(alone(way, 0), (None, None))

    def test_more_than_3000_standings_are_no_matter(self):
        self.assertEqual(alone(helper.vast(), 3), (1, 17))
        self.assertEqual(alone(helper.just_3001(), 0), (16, 17))
        self.assertEqual(hidden(helper.vast(), 2, 1), ((2, None), (1, None)))

    def test_random_ways(self):
        told = []
        for number in range(400):
            way = helper.random_way(number)
            for hand in range(len(way[1])):
                told.append(alone(way, hand))
                self.assertEqual(told[-1], alone_by_trace(way, hand), (way, hand))
        for kind in ((None, None), (1, None)):
            self.assertGreater(told.count(kind), 5)


class Hidden(unittest.TestCase):
    def check(self, way, hand, other):
        run = hidden(way, hand, other)
        self.assertEqual(run, hidden_by_trace(way, hand, other), (way, hand, other))
        if run is not None:
            last = helper.walk(way, helper.start(way), run)[-1]
            self.assertEqual(helper.part(way, last, hand), "within")
            self.assertEqual(helper.part(way, last, other), "within")
        return run

    def test_a_careless_way(self):
        self.assertEqual(self.check(helper.careless(2), 0, 1),
                         ((0, None), (0, 0), (1, None), (1, 0), (1, None), (0, None)))
        self.assertEqual(self.check(helper.careless(4), 3, 1),
                         ((3, None), (3, 0), (1, None), (1, 0), (1, None), (3, None)))

    def test_safe_ways_have_none(self):
        for way in (helper.peterson(), helper.dekker(), helper.flags(2), helper.flags(4), helper.onebit(),
                    helper.turns(2)):
            self.assertIsNone(self.check(way, 0, 1))
            self.assertIsNone(self.check(way, 1, 0))

    def test_each_of_the_three_may_never_come_so_far(self):
        quick = helper.plain_hand(1)
        never = (0, 2, (("look", 0, (), 1), ("write", 0, 0)))
        way = ((("whole", 2, 0),), (quick, never, quick))
        self.assertIsNone(self.check(way, 1, 0))
        self.assertIsNone(self.check(way, 0, 1))
        self.assertEqual(self.check(way, 0, 2), ((0, None), (2, None)))
        # The third part: hand 0 writes and then sees what hand 1 wrote.
        sees = (0, 3, (("write", 0, 1), ("look", 1, (0,), 2), ("write", 0, 0)))
        writes = (0, 2, (("write", 1, 1), ("write", 1, 0)))
        way = ((("whole", 2, 0),) * 2, (sees, writes))
        self.assertIsNone(self.check(way, 0, 1))
        self.assertEqual(self.check(way, 1, 0),
                         ((1, None), (0, None), (0, None), (0, 0), (1, None)))

    def test_the_first_stops_within_too(self):
        # Its row within is a look: it has come so far without any writing.
        looks = (0, 2, (("look", 0, (0,), 1), ("look", 0, (), 2)))
        way = ((("whole", 2, 0),), (looks, helper.careless(1)[1][0]))
        self.assertEqual(self.check(way, 0, 1), ((0, None), (0, 0), (1, None), (1, 0), (1, None)))

    def test_the_first_stops_ahead_of_its_first_writing_alone(self):
        # It looks, then writes twice: both of its writings come behind all steps of the other.
        twice = (0, 4, (("look", 0, (0,), 1), ("write", 0, 1), ("write", 0, 0), ("write", 0, 0)))
        for kind in helper.KINDS:
            looks = (0, 2, (("look", 0, (0,), 1), ("look", 0, (), 2)))
            way = (((kind, 2, 0),), (twice, looks))
            run = self.check(way, 0, 1)
            self.assertEqual([hand for hand, told in run], [0, 0, 1, 1] + [0] * (2 if kind == "whole" else 4))

    def test_one_box_and_both_come_within_alone(self):
        found = 0
        for number in range(3000):
            boxes, hands = helper.random_way(number)
            if len(boxes) == 1 and len(hands) > 1:
                way = (boxes, hands)
                for hand in range(len(hands)):
                    other = (hand + 1) % len(hands)
                    if None not in (alone(way, hand)[0], alone(way, other)[0]):
                        self.assertIsNotNone(self.check(way, hand, other))
                        found += 1
        self.assertGreater(found, 50)

    def test_random_ways(self):
        told = []
        for number in range(400):
            way = helper.random_way(number)
            for hand in range(len(way[1])):
                for other in range(len(way[1])):
                    if hand != other:
                        told.append(self.check(way, hand, other))
        self.assertTrue(50 < told.count(None) < len(told) - 50, (told.count(None), len(told)))


class Refusals(unittest.TestCase):
    def test_no_way_then_no_hand(self):
        for odd in helper.ODD:
            with self.assertRaises(NoWay):
                alone(odd, odd)
            with self.assertRaises(NoWay):
                hidden(odd, odd, odd)
            with self.assertRaises(NoHand):
                alone(helper.peterson(), odd)
            with self.assertRaises(NoHand):
                hidden(helper.peterson(), odd, 1)
            with self.assertRaises(NoHand):
                hidden(helper.peterson(), 1, odd)
        for hand in (-1, 2):
            self.assertRaises(NoHand, alone, helper.peterson(), hand)
            self.assertRaises(NoHand, hidden, helper.peterson(), hand, 0)
            self.assertRaises(NoHand, hidden, helper.peterson(), 0, hand)

    def test_both_the_same(self):
        for hand in (0, 1):
            self.assertRaises(NoHand, hidden, helper.careless(2), hand, hand)
        self.assertRaises(NoWay, hidden, None, 0, 0)

    def test_nothing_changes(self):
        way = helper.careless(3)
        kept = copy.deepcopy(way)
        first = alone(way, 0), hidden(way, 0, 2)
        self.assertEqual((alone(way, 0), hidden(way, 0, 2)), first)
        self.assertEqual(way, kept)


if __name__ == "__main__":
    unittest.main()
