"""Point 10: all standings, and shortest runs to one."""

import unittest

import helper
from onewithin.errors import NoHand, NoStanding, NoWay, TooMany
from onewithin.rings import kept_out, stuck
from onewithin.runs import run_from
from onewithin.safety import two_within
from onewithin.standings import first_standing, steps_from
from onewithin.tables import all_standings, run_to


class AllStandings(unittest.TestCase):
    def check(self, way):
        """Rising, each once, the first one among them, all behind steps, and each behind steps from the first."""
        told = all_standings(way)
        self.assertIsInstance(told, tuple)
        self.assertTrue(all(ahead < behind for ahead, behind in zip(told, told[1:])))
        found = {first_standing(way)}
        waiting = list(found)
        while waiting:
            for step, behind in steps_from(way, waiting.pop()):
                if behind not in found:
                    found.add(behind)
                    waiting.append(behind)
        self.assertEqual(told, tuple(sorted(found)))
        self.assertEqual(told, tuple(sorted(helper.distances(way))))

    def test_of_one_hand(self):
        way = ((("torn", 2, 1),), ((0, 1, (("write", 0, 0),)),))
        self.assertEqual(all_standings(way), (((0,), (0,)), ((0,), (1,)), ((2,), (0,)), ((2,), (1,)),
                                              ((3,), (0,)), ((3,), (1,))))
        way = ((("whole", 2, 1),), ((0, 1, (("write", 0, 0),)),))
        self.assertEqual(all_standings(way), (((0,), (0,)), ((0,), (1,)), ((2,), (0,)), ((2,), (1,))))

    def test_of_one_to_four_hands_and_each_kind(self):
        for kind in helper.KINDS:
            for many in (1, 2, 3):
                self.check(helper.flags(many, kind))
            self.check(helper.onebit(kind))
        self.check(helper.flags(4))
        for many in (2, 3, 4):
            self.check(helper.turns(many))
            self.check(helper.careless(many))
        self.check(helper.peterson())
        self.check(helper.dekker())

    def test_of_random_ways(self):
        for way, far in helper.small_ways(150, 200):
            self.check(way)

    def test_just_3000(self):
        way = helper.just_3000()
        self.check(way)
        self.assertEqual(len(all_standings(way)), 3000)

    def test_the_asker_can_do_anything_with_it(self):
        first = all_standings(helper.peterson())
        mine = list(first)
        mine.clear()
        self.assertEqual(all_standings(helper.peterson()), first)

    def test_no_way(self):
        for odd in helper.ODD:
            with self.assertRaises(NoWay):
                all_standings(odd)


class Limit(unittest.TestCase):
    def test_each_question_takes_3000(self):
        way = helper.just_3000()
        far = helper.distances(way)
        self.assertEqual(len(far), 3000)
        last = max(far, key=far.get)
        self.assertEqual(len(run_to(way, last)), far[last])
        self.assertIsNotNone(two_within(way))
        for hand in range(4):
            kept_out(way, hand)
        stuck(way)

    def test_each_question_refuses_3001_and_more(self):
        self.assertEqual(len(helper.distances(helper.just_3001())), 3001)
        for way in (helper.just_3001(), helper.vast()):
            first = first_standing(way)
            for ask in (lambda: all_standings(way), lambda: run_to(way, first), lambda: two_within(way),
                        lambda: kept_out(way, 0), lambda: stuck(way)):
                with self.assertRaises(TooMany):
                    ask()

    def test_whatever_was_found_ahead(self):
        way = helper.vast()
        near = run_from(way, first_standing(way), ((0, None), (1, None)))
        self.assertEqual(helper.within_count(way, near), 2)
        with self.assertRaises(TooMany):
            run_to(way, near)
        with self.assertRaises(TooMany):
            two_within(way)

    def test_behind_all_other_refusals(self):
        way = helper.vast()
        for odd in helper.ODD:
            with self.assertRaises(NoStanding):
                run_to(way, odd)
            with self.assertRaises(NoHand):
                kept_out(way, odd)
            with self.assertRaises(NoWay):
                run_to(odd, odd)


class RunTo(unittest.TestCase):
    def check(self, way, far):
        for standing in far:
            run = run_to(way, standing)
            self.assertIsInstance(run, tuple)
            self.assertEqual(len(run), far[standing])
            self.assertEqual(helper.walk(way, helper.start(way), run)[-1], standing)

    def test_none_to_the_first_one(self):
        self.assertEqual(run_to(helper.peterson(), ((0, 0), (0, 0, 0))), ())

    def test_none_where_it_is_not_come_to(self):
        self.assertIsNone(run_to(helper.peterson(), ((10, 10), (1, 1, 0))))
        self.assertIsNone(run_to(helper.turns(3), ((0, 4, 4), (1,))))

    def test_shortest(self):
        for way in (helper.peterson(), helper.flags(3), helper.flags(2, "torn"), helper.turns(3)):
            self.check(way, helper.distances(way))

    def test_shortest_of_random_ways(self):
        for way, far in helper.small_ways(60, 60):
            self.check(way, far)

    def test_more_than_a_thousand_steps(self):
        way = helper.long_run()
        far = helper.distances(way)
        last = max(far, key=far.get)
        self.assertGreater(far[last], 1000)
        self.check(way, {last: far[last]})
        self.assertEqual(run_from(way, first_standing(way), run_to(way, last)), last)

    def test_the_same_each_time(self):
        way = helper.flags(3)
        standing = ((4, 4, 4), (1, 1, 1))
        self.assertEqual(run_to(way, standing), run_to(way, standing))

    def test_no_way_then_no_standing(self):
        for odd in helper.ODD:
            with self.assertRaises(NoWay):
                run_to(odd, odd)
            with self.assertRaises(NoStanding):
                run_to(helper.peterson(), odd)
        with self.assertRaises(NoStanding):
            run_to(helper.peterson(), ((True, 0), (0, 0, 0)))


if __name__ == "__main__":
    unittest.main()
