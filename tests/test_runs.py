"""Points 8 and 9: runs."""

import copy
import random
import unittest

import helper
from onewithin.errors import NoStanding, NoStep, NoWay
from onewithin.runs import run_from

WAY = helper.peterson()
FIRST = ((0, 0), (0, 0, 0))


class Runs(unittest.TestCase):
    def number(self, way, standing, run):
        with self.assertRaises(NoStep) as caught:
            run_from(way, standing, run)
        return caught.exception.number

    def test_of_no_steps(self):
        self.assertEqual(run_from(WAY, FIRST, ()), FIRST)
        self.assertEqual(run_from(WAY, ((4, 6), (1, 1, 0)), ()), ((4, 6), (1, 1, 0)))

    def test_of_one_hand_through_and_out(self):
        run = ((0, None), (0, None), (0, None), (0, 0), (0, None))
        self.assertEqual(run_from(WAY, FIRST, run), ((0, 0), (0, 0, 1)))
        self.assertEqual(run_from(WAY, FIRST, run[:4]), ((10, 0), (1, 0, 1)))

    def test_of_many_steps(self):
        chance = random.Random(5)
        for way, far in helper.small_ways(40, 60):
            standing = helper.start(way)
            run = []
            for _ in range(100):
                step, standing = chance.choice(helper.steps(way, standing))
                run.append(step)
            self.assertEqual(run_from(way, helper.start(way), tuple(run)), standing)
        run = ((0, None), (0, None), (0, None), (0, 0), (0, None)) * 1000
        self.assertEqual(run_from(WAY, FIRST, run), ((0, 0), (0, 0, 1)))

    def test_from_a_standing_not_come_to(self):
        self.assertEqual(run_from(WAY, ((10, 10), (1, 1, 0)), ((1, None), (0, None))), ((0, 0), (0, 0, 0)))

    def test_looks_told_one_number_or_another(self):
        way = ((("torn", 3, 0),), ((0, 1, (("write", 0, 2),)), (0, 2, (("look", 0, (1,), 1), ("look", 0, (), 2)))))
        amid = ((0, None), (0, None), (1, None))
        self.assertEqual(run_from(way, ((0, 0), (0,)), amid + ((1, 0),)), ((3, 2), (0,)))
        self.assertEqual(run_from(way, ((0, 0), (0,)), amid + ((1, 1),)), ((3, 4), (0,)))
        self.assertEqual(self.number(way, ((0, 0), (0,)), amid + ((1, 3),)), 3)
        self.assertEqual(self.number(way, ((0, 0), (0,)), amid + ((1, None),)), 3)

    def test_a_step_that_cannot_be_taken(self):
        self.assertEqual(self.number(WAY, FIRST, ((0, 0),)), 0)
        self.assertEqual(self.number(WAY, FIRST, ((0, None), (0, None), (0, None), (0, None))), 3)
        self.assertEqual(self.number(WAY, FIRST, ((0, None), (0, None), (0, None), (0, 1))), 3)
        self.assertEqual(self.number(WAY, FIRST, ((0, None), (2, None), (0, 7))), 1)
        self.assertEqual(self.number(WAY, FIRST, ((0, None), (-1, None))), 1)

    def test_what_is_no_step(self):
        for odd in helper.ODD:
            self.assertEqual(self.number(WAY, FIRST, (odd,)), 0)
            self.assertEqual(self.number(WAY, FIRST, ((0, None), (1, None), odd, odd)), 2)
            self.assertEqual(self.number(WAY, FIRST, ((odd, None),)), 0)
            if odd is not None:
                self.assertEqual(self.number(WAY, FIRST, ((0, odd),)), 0)
        self.assertEqual(self.number(WAY, FIRST, ([0, None],)), 0)
        self.assertEqual(self.number(WAY, FIRST, ((0, None, None),)), 0)
        self.assertEqual(self.number(WAY, FIRST, ((0,),)), 0)

    def test_truths_are_no_numbers(self):
        self.assertEqual(self.number(WAY, FIRST, ((False, None),)), 0)
        self.assertEqual(self.number(WAY, FIRST, ((0, None), (True, None))), 1)
        self.assertEqual(self.number(WAY, ((6, 0), (0, 0, 0)), ((0, False),)), 0)
        self.assertEqual(self.number(WAY, ((6, 0), (0, 1, 0)), ((0, True),)), 0)

    def test_what_is_no_tuple(self):
        for run in (None, [], [(0, None)], "", "run", {}, 0, True, b"", set(), object()):
            self.assertIsNone(self.number(WAY, FIRST, run))

    def test_no_way_then_no_standing_then_no_step(self):
        for odd in helper.ODD:
            with self.assertRaises(NoWay):
                run_from(odd, odd, odd)
            with self.assertRaises(NoStanding):
                run_from(WAY, odd, odd)
        with self.assertRaises(NoStanding):
            run_from(WAY, ((0, 0), (0, 0, 2)), ((9, 9),))

    def test_nothing_handed_in_is_changed(self):
        run = [(0, None), [1, {2: [3]}]]
        before = copy.deepcopy(run)
        self.assertIsNone(self.number(WAY, FIRST, run))
        self.assertEqual(self.number(WAY, FIRST, tuple(run)), 1)
        self.assertEqual(run, before)


if __name__ == "__main__":
    unittest.main()
