"""Points 4, 5 and 6: what is a way, and the parts of a place."""

import copy
import unittest

import helper
from onewithin.errors import NoHand, NoPlace, NoWay
from onewithin.ways import is_way, part_at

BOX = ("whole", 2, 0)
LOOK = ("look", 0, (0,), 1)
WRITE = ("write", 0, 1)


def of_box(box):
    return ((box,), ((0, 1, (("look", 0, (), 1),)),))


def of_program(door, within, rows, boxes=(BOX,)):
    return (boxes, ((door, within, rows),))


def of_row(row, boxes=(BOX,)):
    """A way with this row as row 1, ahead of within."""
    return of_program(0, 2, (row, ("look", 0, (), 2)), boxes)


class Whole(unittest.TestCase):
    """What takes and what doesn't, each bound at its edge and passed by one."""

    def takes(self, *ways):
        for way in ways:
            self.assertIs(is_way(way), True, way)

    def refuses(self, *things):
        for thing in things:
            self.assertIs(is_way(thing), False, thing)


class Boxes(Whole):
    def test_kinds(self):
        self.takes(of_box(("whole", 2, 0)), of_box(("either", 2, 0)), of_box(("torn", 2, 0)))
        self.refuses(of_box(("Whole", 2, 0)), of_box(("", 2, 0)), of_box(("who", 2, 0)), of_box((b"whole", 2, 0)))

    def test_sizes_and_starts(self):
        for size in (2, 3, 4, 5):
            self.takes(of_box(("torn", size, 0)), of_box(("torn", size, size - 1)))
            self.refuses(of_box(("torn", size, -1)), of_box(("torn", size, size)))
        self.refuses(of_box(("whole", 1, 0)), of_box(("whole", 6, 0)), of_box(("whole", 0, 0)))
        self.refuses(of_box(("whole", 2, True)), of_box(("whole", 2, False)), of_box(("whole", True, 0)))

    def test_parts_left_out_or_told_twice(self):
        self.refuses(of_box(()), of_box(("whole", 2)), of_box(("whole", 2, 0, 0)), of_box((2, 0)))
        self.refuses(of_box(["whole", 2, 0]), of_box("whole"), of_box({"kind": "whole"}), of_box(None))

    def test_each_box_is_looked_at(self):
        # No row has anything to do with the odd one.
        for odd in (("whole", 6, 0), ("whole", 2, 2), ("wooden", 2, 0), ["whole", 2, 0], None, ()):
            for at, boxes in enumerate(((odd, BOX, BOX), (BOX, odd, BOX), (BOX, BOX, odd))):
                box = (at + 1) % 3
                self.takes(((BOX,) * 3, ((0, 1, (("look", box, (), 1),)),)))
                self.refuses((boxes, ((0, 1, (("look", box, (), 1),)),)))

    def test_how_many(self):
        program = (0, 1, (("look", 0, (), 1),))
        self.takes(((BOX,), (program,)), ((BOX,) * 12, (program,)))
        self.refuses(((), (program,)), ((BOX,) * 13, (program,)), ([BOX], (program,)))


class Programs(Whole):
    def test_how_many_hands(self):
        program = (0, 1, (LOOK,))
        for many in (1, 2, 3, 4):
            self.takes(((BOX,), (program,) * many))
        self.refuses(((BOX,), ()), ((BOX,), (program,) * 5), ((BOX,), [program]), ((BOX,), program))

    def test_how_many_rows(self):
        self.takes(of_program(0, 1, (WRITE,)), of_program(0, 1, (WRITE,) * 16), of_program(15, 16, (WRITE,) * 16))
        self.refuses(of_program(0, 1, ()), of_program(0, 1, (WRITE,) * 17), of_program(0, 1, [WRITE]))

    def test_within(self):
        for many in (1, 5, 16):
            self.takes(of_program(0, 1, (WRITE,) * many), of_program(0, many, (WRITE,) * many))
            self.refuses(of_program(0, 0, (WRITE,) * many), of_program(0, many + 1, (WRITE,) * many))
            self.refuses(of_program(0, True, (WRITE,) * many), of_program(0, "1", (WRITE,) * many))

    def test_door(self):
        for within in (1, 2, 5):
            self.takes(of_program(0, within, (WRITE,) * 5), of_program(within - 1, within, (WRITE,) * 5))
            self.refuses(of_program(-1, within, (WRITE,) * 5), of_program(within, within, (WRITE,) * 5))
            self.refuses(of_program(False, within, (WRITE,) * 5), of_program(None, within, (WRITE,) * 5))

    def test_parts_left_out_or_told_twice(self):
        self.refuses(((BOX,), ((0, 1),)), ((BOX,), ((0, 1, (WRITE,), (WRITE,)),)), ((BOX,), ([0, 1, (WRITE,)],)))
        self.refuses(((BOX,), (None,)), ((BOX,), ("row",)), ((BOX,), ({},)))


class Rows(Whole):
    def test_boxes_of_rows(self):
        boxes = (BOX,) * 3
        for box in (0, 2):
            self.takes(of_row(("write", box, 0), boxes), of_row(("look", box, (), 1), boxes))
        for box in (-1, 3, True, None, "0"):
            self.refuses(of_row(("write", box, 0), boxes), of_row(("look", box, (), 1), boxes))

    def test_numbers_written(self):
        for size in (2, 5):
            boxes = (("torn", 2, 0), ("torn", size, 0))
            self.takes(of_row(("write", 1, 0), boxes), of_row(("write", 1, size - 1), boxes))
            self.refuses(of_row(("write", 1, -1), boxes), of_row(("write", 1, size), boxes))
            self.refuses(of_row(("write", 1, True), boxes), of_row(("write", 1, None), boxes))

    def test_numbers_looked_for(self):
        boxes = (("either", 4, 3),)
        for numbers in ((), (0,), (3,), (0, 3), (1, 2), (0, 1, 2, 3)):
            self.takes(of_row(("look", 0, numbers, 1), boxes))
        for numbers in ((4,), (-1,), (1, 0), (1, 1), (0, 1, 1), (0, 1, 2, 3, 4), (True,), (0, True), (None,), [0], 0,
                        None, "0", {0}, {0: 1}, ((0,),)):
            self.refuses(of_row(("look", 0, numbers, 1), boxes))

    def test_words(self):
        self.refuses(of_row(("read", 0, 0)), of_row(("Write", 0, 0)), of_row(("look", 0, 0)), of_row((b"write", 0, 0)))
        self.refuses(of_row(("write", 0, (0,), 1)), of_row((None, 0, 0)), of_row((["write"], 0, 0)))

    def test_parts_left_out_or_told_twice(self):
        self.refuses(of_row(("write", 0)), of_row(("write", 0, 0, 0)), of_row(("look", 0, ())), of_row(()))
        self.refuses(of_row(("look", 0, (), 1, 1)), of_row(["write", 0, 0]), of_row(["look", 0, (), 1]))
        self.refuses(of_row("write"), of_row("look"), of_row(None), of_row({}))

    def places(self, at):
        """The places that a look at this row may have, of five rows with within at 3."""
        taken = []
        for place in range(-1, 8):
            rows = [WRITE] * 5
            rows[at - 1] = ("look", 0, (0,), place)
            if is_way(of_program(0, 3, tuple(rows))):
                taken.append(place)
        return taken

    def test_places_ahead_of_within(self):
        self.assertEqual(self.places(1), [1, 2, 3])
        self.assertEqual(self.places(2), [1, 2, 3])

    def test_place_at_within(self):
        self.assertEqual(self.places(3), [3])

    def test_places_behind_within(self):
        self.assertEqual(self.places(4), [4, 5])
        self.assertEqual(self.places(5), [4, 5])

    def test_places_of_other_kinds(self):
        for place in (True, None, "1", (1,), [1], b"1"):
            self.refuses(of_row(("look", 0, (0,), place)))

    def test_a_last_row_is_looked_at_too(self):
        self.refuses(of_program(0, 1, (WRITE,) * 15 + (("write", 0, 2),)))


class Writers(Whole):
    def of_two(self, kind, first, second):
        return (((kind, 2, 0), BOX), ((0, 1, first), (0, 1, second)))

    def test_a_whole_box_has_any_writers(self):
        self.takes(self.of_two("whole", (WRITE,), (WRITE,)))

    def test_another_box_has_one_hand_that_writes(self):
        for kind in ("either", "torn"):
            self.takes(self.of_two(kind, (WRITE, ("write", 0, 0), WRITE), (LOOK, ("write", 1, 1))))
            self.takes(self.of_two(kind, (LOOK,), (WRITE,)), self.of_two(kind, (LOOK,), (LOOK,)))
            self.refuses(self.of_two(kind, (WRITE,), (WRITE,)), self.of_two(kind, (LOOK, WRITE), (LOOK, WRITE)))

    def test_a_box_behind_others(self):
        row = ("write", 2, 1)
        hand = (0, 1, (row,))
        self.takes(((BOX, BOX, BOX), (hand,) * 4), ((BOX, BOX, ("torn", 2, 0)), (hand, (0, 1, (WRITE,)))))
        self.refuses(((BOX, BOX, ("torn", 2, 0)), (hand, (0, 1, (WRITE,)), hand)))


class AnyKind(Whole):
    def test_odd_things_are_no_ways(self):
        self.refuses(*helper.ODD)

    def test_odd_things_in_any_part(self):
        way = (((("whole", 2, 0),), ((0, 2, (("look", 0, (0,), 1), ("write", 0, 1))),)))
        self.takes(way)
        for odd in helper.ODD:
            boxes, ((door, within, rows),) = way
            self.refuses((odd, way[1]), (boxes, odd), ((odd,), way[1]), (boxes, (odd,)), (boxes, way[1], odd))
            self.refuses(of_program(odd, within, rows), of_program(door, odd, rows), of_program(door, within, odd))
            self.refuses(of_program(0, 2, (odd, rows[1])), of_program(0, 2, (rows[0], odd)))
            self.refuses(of_row((odd, 0, 0)), of_row(("write", odd, 0)), of_row(("write", 0, odd)))
            self.refuses(of_row((odd, 0, (), 1)), of_row(("look", odd, (), 1)), of_row(("look", 0, (), odd)))
            self.refuses(of_row(("look", 0, (odd,), 1)))
            if odd != ():
                self.refuses(of_row(("look", 0, odd, 1)))
            if odd != "whole":
                self.refuses(of_box((odd, 2, 0)))
            self.refuses(of_box(("whole", odd, 0)), of_box(("whole", 2, odd)))

    def test_what_claims_to_be_like_anything(self):
        class Sly:
            def __eq__(self, other):
                return True

        self.refuses(Sly(), of_box((Sly(), 2, 0)), of_row((Sly(), 0, 0)), of_row((Sly(), 0, (), 1)))

    def test_lists_for_tuples(self):
        boxes, hands = helper.peterson()
        self.refuses([boxes, hands], (list(boxes), hands), (boxes, list(hands)))

    def test_way_told_twice_or_short(self):
        boxes, hands = helper.peterson()
        self.refuses((boxes,), (hands,), (boxes, hands, hands), (hands, boxes))

    def test_known_ways(self):
        self.takes(helper.peterson(), helper.dekker(), helper.turns(4), helper.flags(4, "torn"), helper.onebit("either"))

    def test_nothing_handed_in_is_changed(self):
        thing = ([["whole", 2, 0]], {"a": [1]})
        before = copy.deepcopy(thing)
        is_way(thing)
        self.assertEqual(thing, before)


class Parts(unittest.TestCase):
    def parts(self, door, within, many):
        way = of_program(door, within, (WRITE,) * many)
        return [part_at(way, 0, place) for place in range(many + 1)]

    def test_every_part(self):
        self.assertEqual(self.parts(2, 4, 6), ["outside", "doorway", "doorway", "waiting", "within", "leaving",
                                               "leaving"])

    def test_edges_of_door_and_within(self):
        self.assertEqual(self.parts(0, 1, 1), ["outside", "within"])
        self.assertEqual(self.parts(0, 2, 2), ["outside", "waiting", "within"])
        self.assertEqual(self.parts(1, 2, 2), ["outside", "doorway", "within"])
        self.assertEqual(self.parts(0, 1, 3), ["outside", "within", "leaving", "leaving"])
        self.assertEqual(self.parts(14, 16, 16), ["outside"] + ["doorway"] * 14 + ["waiting", "within"])
        self.assertEqual(self.parts(15, 16, 16), ["outside"] + ["doorway"] * 15 + ["within"])

    def test_each_hand_has_its_own(self):
        way = ((BOX,), ((0, 1, (WRITE,) * 2), (1, 2, (WRITE,) * 2), (0, 2, (WRITE,) * 2)))
        self.assertEqual([part_at(way, hand, 1) for hand in range(3)], ["within", "doorway", "waiting"])
        self.assertEqual([part_at(way, hand, 2) for hand in range(3)], ["leaving", "within", "within"])

    def test_no_place(self):
        way = of_program(0, 1, (WRITE,) * 3)
        for place in (-1, 4) + helper.ODD:
            with self.assertRaises(NoPlace):
                part_at(way, 0, place)

    def test_no_hand_ahead_of_no_place(self):
        for hand in (-1, 2) + helper.ODD:
            for place in (0, 99, None):
                with self.assertRaises(NoHand):
                    part_at(helper.peterson(), hand, place)

    def test_no_way_ahead_of_all(self):
        for way in helper.ODD:
            for hand in (0, -1, None):
                with self.assertRaises(NoWay):
                    part_at(way, hand, [])


if __name__ == "__main__":
    unittest.main()
