"""Points 7, 8 and 9: standings and their steps."""

import copy
import unittest

import helper
from onewithin.errors import NoStanding, NoWay
from onewithin.standings import first_standing, is_standing, steps_from


def mixed(kind, size=3, start=0, number=2, numbers=(1,)):
    """Hand 0 writes box 0 and then box 1, which is whole; hand 1 looks at box 0 and then at box 1."""
    writer = (0, 2, (("write", 0, number), ("write", 1, 1)))
    looker = (0, 2, (("look", 0, numbers, 1), ("look", 1, (0,), 2)))
    return (((kind, size, start), ("whole", 2, 0)), (writer, looker))


class FirstStanding(unittest.TestCase):
    def test_all_outside_and_starts(self):
        way = ((("whole", 2, 1), ("torn", 5, 4), ("either", 3, 0)), (helper.plain_hand(1),) * 4)
        self.assertEqual(first_standing(way), ((0, 0, 0, 0), (1, 4, 0)))
        self.assertEqual(first_standing(helper.peterson()), ((0, 0), (0, 0, 0)))

    def test_no_way(self):
        for thing in helper.ODD:
            with self.assertRaises(NoWay):
                first_standing(thing)


class IsStanding(unittest.TestCase):
    def takes(self, way, *things):
        for thing in things:
            self.assertIs(is_standing(way, thing), True, thing)

    def refuses(self, way, *things):
        for thing in things:
            self.assertIs(is_standing(way, thing), False, thing)

    def test_all_that_are_come_to(self):
        for way, far in helper.small_ways(20, 60):
            self.takes(way, *far)

    def test_some_that_are_not_come_to(self):
        way = helper.peterson()
        standing = ((10, 10), (1, 1, 0))
        self.assertNotIn(standing, helper.distances(way))
        self.takes(way, standing, ((0, 0), (1, 1, 1)))

    def test_edges_of_spots(self):
        way = helper.peterson()
        self.takes(way, ((10, 0), (0, 0, 0)), ((0, 10), (0, 0, 0)))
        self.refuses(way, ((12, 0), (0, 0, 0)), ((0, -2), (0, 0, 0)), ((-1, 0), (0, 0, 0)), ((1, 0), (0, 0, 0)))
        self.refuses(way, ((3, 0), (0, 0, 0)), ((0, 7), (0, 0, 0)), ((11, 0), (0, 0, 0)))

    def test_edges_of_values(self):
        way = ((("whole", 2, 0), ("torn", 5, 0)), (helper.plain_hand(2),))
        self.takes(way, ((0,), (1, 4)), ((4,), (0, 0)))
        self.refuses(way, ((0,), (2, 0)), ((0,), (0, 5)), ((0,), (-1, 0)), ((0,), (0, -1)))

    def test_odd_spots_just_where_a_writing_takes_two_steps(self):
        for kind in ("either", "torn"):
            way = mixed(kind)
            odd = [spot for spot in range(-1, 8, 2) if is_standing(way, ((spot, 0), (0, 0)))]
            self.assertEqual(odd, [3])
            self.assertEqual([spot for spot in range(-1, 8, 2) if is_standing(way, ((0, spot), (0, 0)))], [])
        way = mixed("whole")
        self.assertEqual([spot for spot in range(-1, 8, 2) if is_standing(way, ((spot, 0), (0, 0)))], [])

    def test_an_odd_spot_at_the_last_row(self):
        way = ((("torn", 2, 0),), ((0, 1, (("look", 0, (), 1), ("write", 0, 1))),))
        self.takes(way, ((5,), (0,)), ((4,), (0,)))
        self.refuses(way, ((6,), (0,)), ((7,), (0,)), ((3,), (0,)), ((1,), (0,)))

    def test_lengths(self):
        way = helper.peterson()
        self.refuses(way, ((0,), (0, 0, 0)), ((0, 0, 0), (0, 0, 0)), ((0, 0), (0, 0)), ((0, 0), (0, 0, 0, 0)))
        self.refuses(way, ((0, 0),), ((0, 0), (0, 0, 0), ()), ((0, 0, 0), (0, 0)))

    def test_things_of_any_kind(self):
        way = helper.peterson()
        self.refuses(way, *helper.ODD)
        for odd in helper.ODD:
            self.refuses(way, (odd, (0, 0, 0)), ((0, 0), odd), ((odd, 0), (0, 0, 0)), ((0, odd), (0, 0, 0)))
            self.refuses(way, ((0, 0), (odd, 0, 0)), ((0, 0), (0, 0, odd)), ((0, 0), (0, 0, 0), odd))
        self.refuses(way, [(0, 0), (0, 0, 0)], ([0, 0], (0, 0, 0)), ((0, 0), [0, 0, 0]))
        self.refuses(way, ((0, False), (0, 0, 0)), ((0, 0), (0, True, 0)))

    def test_no_way(self):
        for thing in helper.ODD:
            with self.assertRaises(NoWay):
                is_standing(thing, ((0, 0), (0, 0, 0)))
            with self.assertRaises(NoWay):
                is_standing(thing, None)


class Steps(unittest.TestCase):
    def of_hand(self, way, standing, hand):
        return [(told, behind) for (who, told), behind in steps_from(way, standing) if who == hand]

    def test_outside_a_hand_begins(self):
        self.assertEqual(steps_from(helper.peterson(), ((0, 0), (0, 0, 0))),
                         (((0, None), ((2, 0), (0, 0, 0))), ((1, None), ((0, 2), (0, 0, 0)))))

    def test_a_write_of_a_whole_box(self):
        self.assertEqual(self.of_hand(mixed("whole"), ((2, 0), (0, 0)), 0), [(None, ((4, 0), (2, 0)))])

    def test_a_write_of_another_box_takes_two_steps(self):
        for kind in ("either", "torn"):
            way = mixed(kind)
            self.assertEqual(self.of_hand(way, ((2, 0), (0, 0)), 0), [(None, ((3, 0), (0, 0)))])
            self.assertEqual(self.of_hand(way, ((3, 0), (0, 0)), 0), [(None, ((4, 0), (2, 0)))])

    def test_the_last_row_leads_outside(self):
        self.assertEqual(self.of_hand(mixed("torn"), ((4, 0), (0, 0)), 0), [(None, ((0, 0), (0, 1)))])
        self.assertEqual(self.of_hand(mixed("torn"), ((0, 4), (0, 0)), 1), [(0, ((0, 0), (0, 0)))])
        way = ((("torn", 2, 0),), ((0, 1, (("write", 0, 1),)),))
        self.assertEqual(steps_from(way, ((3,), (0,))), (((0, None), ((0,), (1,))),))

    def test_a_look_goes_on_or_to_its_place(self):
        for kind in helper.KINDS:
            way = mixed(kind)
            self.assertEqual(self.of_hand(way, ((2, 2), (1, 0)), 1), [(1, ((2, 4), (1, 0)))])
            self.assertEqual(self.of_hand(way, ((2, 2), (0, 0)), 1), [(0, ((2, 2), (0, 0)))])
            self.assertEqual(self.of_hand(way, ((4, 2), (2, 0)), 1), [(2, ((4, 2), (2, 0)))])

    def test_a_look_that_stays_within(self):
        self.assertEqual(self.of_hand(mixed("torn"), ((0, 4), (0, 1)), 1), [(1, ((0, 4), (0, 1)))])

    def test_a_look_that_leads_elsewhere(self):
        self.assertEqual(self.of_hand(helper.peterson(), ((0, 6), (0, 0, 0)), 1), [(0, ((0, 10), (0, 0, 0)))])
        self.assertEqual(self.of_hand(helper.peterson(), ((0, 8), (0, 0, 0)), 1), [(0, ((0, 6), (0, 0, 0)))])

    def test_a_look_amid_a_writing(self):
        either, torn = mixed("either", 4, 3), mixed("torn", 4, 3)
        self.assertEqual(self.of_hand(either, ((3, 2), (3, 0)), 1),
                         [(2, ((3, 2), (3, 0))), (3, ((3, 2), (3, 0)))])
        self.assertEqual(self.of_hand(torn, ((3, 2), (3, 0)), 1),
                         [(0, ((3, 2), (3, 0))), (1, ((3, 4), (3, 0))), (2, ((3, 2), (3, 0))), (3, ((3, 2), (3, 0)))])

    def test_a_look_amid_a_writing_of_what_is_there(self):
        self.assertEqual([told for told, behind in self.of_hand(mixed("either"), ((3, 2), (2, 0)), 1)], [2])
        self.assertEqual([told for told, behind in self.of_hand(mixed("torn"), ((3, 2), (2, 0)), 1)], [0, 1, 2])

    def test_a_look_at_another_box_than_the_one_being_written(self):
        for kind in ("either", "torn"):
            self.assertEqual(self.of_hand(mixed(kind), ((3, 4), (0, 1)), 1), [(1, ((3, 4), (0, 1)))])
        row = ("look", 1, (0,), 1)
        way = ((("torn", 2, 0), ("torn", 5, 4)), ((0, 1, (("write", 0, 1),)), (0, 1, (row,))))
        self.assertEqual(self.of_hand(way, ((3, 2), (0, 4)), 1), [(4, ((3, 2), (0, 4)))])

    def test_a_look_ahead_of_and_behind_a_writing(self):
        for kind in helper.KINDS:
            way = mixed(kind)
            self.assertEqual([told for told, behind in self.of_hand(way, ((2, 2), (0, 0)), 1)], [0])
            self.assertEqual([told for told, behind in self.of_hand(way, ((4, 2), (2, 0)), 1)], [2])

    def test_looks_of_no_numbers_and_of_all(self):
        for told in (0, 1, 2):
            for numbers, spot in (((), 2), ((0, 1, 2), 4)):
                way = mixed("whole", numbers=numbers)
                self.assertEqual(self.of_hand(way, ((0, 2), (told, 0)), 1), [(told, ((0, spot), (told, 0)))])

    def test_by_hands_then_by_numbers_told(self):
        writer = (0, 1, (("write", 0, 0),))
        looker = (0, 1, (("look", 0, (0,), 1),))
        way = ((("torn", 5, 4),), (looker, writer, looker))
        told = [step for step, behind in steps_from(way, ((2, 3, 2), (4,)))]
        self.assertEqual(told, [(0, n) for n in range(5)] + [(1, None)] + [(2, n) for n in range(5)])
        way = ((("either", 5, 4),), (looker, writer, looker))
        told = [step for step, behind in steps_from(way, ((2, 3, 2), (4,)))]
        self.assertEqual(told, [(0, 0), (0, 4), (1, None), (2, 0), (2, 4)])

    def test_against_a_second_telling(self):
        for way, far in helper.small_ways(150, 80):
            for standing in far:
                self.assertEqual(steps_from(way, standing), tuple(helper.steps(way, standing)))

    def test_whole_numbers_and_tuples_are_told(self):
        for way, far in helper.small_ways(20, 40):
            for (hand, told), (spots, values) in steps_from(way, first_standing(way)):
                self.assertTrue(all(type(number) is int for number in (hand,) + spots + values))
                self.assertIs(type(spots), tuple)
                self.assertIs(type(values), tuple)

    def test_the_same_each_time(self):
        way = mixed("torn")
        standing = ((3, 2), (0, 0))
        first = steps_from(way, standing)
        steps_from(way, ((0, 0), (0, 0)))
        self.assertEqual(steps_from(copy.deepcopy(way), standing), first)

    def test_refusals_in_their_order(self):
        for odd in helper.ODD:
            with self.assertRaises(NoWay):
                steps_from(odd, odd)
            with self.assertRaises(NoStanding):
                steps_from(helper.peterson(), odd)
        with self.assertRaises(NoStanding):
            steps_from(helper.peterson(), ((0, 0), (0, 0, True)))
        with self.assertRaises(NoStanding):
            steps_from(helper.peterson(), ((3, 0), (0, 0, 0)))


if __name__ == "__main__":
    unittest.main()
