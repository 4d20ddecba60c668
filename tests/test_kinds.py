"""Point 15: a way with a kind."""

import copy
import unittest

import helper
from onewithin.errors import NoKind, NoWay
from onewithin.kinds import with_kind
from onewithin.ways import is_way


class WithKind(unittest.TestCase):
    def test_all_boxes_are_of_the_kind_and_all_else_stays(self):
        for kind in helper.KINDS:
            for was in helper.KINDS:
                self.assertEqual(with_kind(helper.flags(3, was), kind), helper.flags(3, kind))
        boxes = (("whole", 2, 1), ("either", 5, 3), ("torn", 3, 0))
        hands = ((0, 1, (("write", 1, 4),)), (0, 1, (("write", 2, 2),)))
        for kind in helper.KINDS:
            self.assertEqual(with_kind((boxes, hands), kind), (((kind, 2, 1), (kind, 5, 3), (kind, 3, 0)), hands))

    def test_a_box_that_two_write_can_be_whole_alone(self):
        for way in (helper.peterson(), helper.turns(2), helper.careless(2), helper.just_3001()):
            self.assertEqual(with_kind(way, "whole"), way)
        for way in (helper.peterson(), helper.turns(2), helper.careless(2), helper.vast()):
            for kind in ("either", "torn"):
                told = (tuple((kind, size, start) for was, size, start in way[0]), way[1])
                if is_way(told):
                    self.assertEqual(with_kind(way, kind), told)
                else:
                    with self.assertRaises(NoWay):
                        with_kind(way, kind)
        with self.assertRaises(NoWay):
            with_kind(helper.peterson(), "torn")
        self.assertEqual(with_kind(helper.careless(1), "torn")[0], (("torn", 2, 0),))

    def test_random_ways(self):
        for number in range(200):
            way = helper.random_way(number)
            for kind in helper.KINDS:
                told = (tuple((kind,) + box[1:] for box in way[0]), way[1])
                if is_way(told):
                    self.assertEqual(with_kind(way, kind), told)
                else:
                    self.assertRaises(NoWay, with_kind, way, kind)

    def test_refusals_in_their_order(self):
        for odd in helper.ODD:
            with self.assertRaises(NoWay):
                with_kind(odd, odd)
            if odd != "whole":
                for way in (helper.peterson(), helper.flags(2)):
                    with self.assertRaises(NoKind):
                        with_kind(way, odd)
        for odd in ("Whole", "whole ", "wholeeither", b"torn", ["torn"], ("torn",), 0, 1):
            with self.assertRaises(NoKind):
                with_kind(helper.peterson(), odd)

    def test_nothing_changes(self):
        way = helper.flags(2)
        kept = copy.deepcopy(way)
        with_kind(way, "torn")
        self.assertEqual(way, kept)


if __name__ == "__main__":
    unittest.main()
