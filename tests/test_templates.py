"""Points 18 and 19: what is a template, and its way for so many hands."""

import copy
import unittest

import helper
from onewithin.errors import NoMany, NoTemplate
from onewithin.templates import is_template, way_for
from onewithin.ways import is_way

KIND = ("whole", 2, 0)
LOOK = ("look", "others", 0, (0,), 1)
WRITE = ("write", 0, 1)


def of_kinds(*kinds):
    return (kinds, (0, 1, (("write", 0, 0),)))


def of_program(door, within, rows, kinds=(KIND,)):
    return (kinds, (door, within, rows))


def of_row(row, kinds=(KIND,)):
    """A template with this row as row 1, ahead of within."""
    return of_program(0, 2, (row, ("write", 0, 0)), kinds)


class Templates(unittest.TestCase):
    def takes(self, *templates):
        for template in templates:
            self.assertIs(is_template(template), True, template)
            for many in (1, 2, 3, 4):
                self.assertTrue(is_way(way_for(template, many)), template)

    def refuses(self, *things):
        for thing in things:
            self.assertIs(is_template(thing), False, thing)
            with self.assertRaises(NoTemplate):
                way_for(thing, 2)


class WhatIsOne(Templates):
    def test_known_templates(self):
        self.takes(*[helper.flags_template(kind) for kind in helper.KINDS])
        self.takes(*[helper.onebit_template(kind) for kind in helper.KINDS])

    def test_one_or_two_kinds(self):
        self.takes(of_kinds(KIND), of_kinds(KIND, ("torn", 5, 4)), of_kinds(("either", 3, 2)))
        self.refuses(of_kinds(), of_kinds(KIND, KIND, KIND), ([KIND], (0, 1, (WRITE,))), (KIND, (0, 1, (WRITE,))))
        self.refuses(of_kinds(("whole", 1, 0)), of_kinds(("whole", 6, 0)), of_kinds(KIND, ("whole", 2, 2)))
        self.refuses(of_kinds(["whole", 2, 0]), of_kinds(("hole", 2, 0)), of_kinds(KIND, None), of_kinds(("whole", 2)))

    def test_rows_are_1_to_8(self):
        for many in range(1, 9):
            self.takes(of_program(0, many, (WRITE,) * many), of_program(0, 1, (WRITE,) * many))
        self.refuses(of_program(0, 1, (WRITE,) * 9), of_program(0, 9, (WRITE,) * 9), of_program(0, 1, ()))
        self.refuses(of_program(0, 0, ()), of_program(0, 1, [WRITE]), of_program(0, 1, WRITE))

    def test_doors_and_withins(self):
        rows = (WRITE, LOOK, WRITE, WRITE)
        self.takes(*[of_program(door, within, rows) for within in (3, 4) for door in range(within)])
        self.refuses(of_program(0, 0, rows), of_program(0, 5, rows), of_program(3, 3, rows), of_program(-1, 3, rows))
        self.refuses(of_program(False, 3, rows), of_program(0, True, (WRITE,)), of_program("0", 3, rows))
        self.refuses(((KIND,), (0, 3)), ((KIND,), (0, 3, rows, ())), ((KIND,), [0, 3, rows]), ((KIND,), None))

    def test_looks_stand_ahead_of_within_alone(self):
        self.takes(of_program(0, 3, (LOOK, LOOK, WRITE)))
        self.refuses(of_program(0, 2, (LOOK, LOOK, WRITE)), of_program(0, 1, (LOOK, WRITE)), of_program(0, 1, (LOOK,)))
        self.refuses(of_program(0, 1, (WRITE, ("look", "others", 0, (0,), 2))))
        self.refuses(of_program(0, 2, (WRITE, ("look", "others", 0, (0,), 2))))

    def test_together_16(self):
        # Write rows once and look rows three times.
        for looks, writes in ((5, 1), (4, 4), (4, 1), (3, 5), (0, 8)):
            self.takes(of_program(0, looks + 1, (LOOK,) * looks + (WRITE,) * writes))
        for looks, writes in ((5, 2), (5, 3), (6, 1), (6, 2), (7, 1)):
            self.refuses(of_program(0, looks + 1, (LOOK,) * looks + (WRITE,) * writes))
            self.refuses(of_program(0, looks + writes, (WRITE,) * (writes - 1) + (LOOK,) * looks + (WRITE,)))
        lower = ("look", "lower", 0, (), 1)
        self.takes(of_program(0, 6, (lower,) * 5 + (WRITE,)))
        self.refuses(of_program(0, 7, (lower,) * 5 + (WRITE,) * 2), of_program(0, 7, (lower,) * 6 + (WRITE,)))

    def test_write_rows(self):
        kinds = (KIND, ("torn", 3, 0))
        self.takes(of_row(("write", 0, 1), kinds), of_row(("write", 1, 2), kinds))
        self.refuses(of_row(("write", 0, 2), kinds), of_row(("write", 1, 3), kinds), of_row(("write", 2, 0), kinds))
        self.refuses(of_row(("write", -1, 0)), of_row(("write", 0, -1)), of_row(("write", 0, True)))
        self.refuses(of_row(("write", False, 0)), of_row(("write", 0)), of_row(("write", "others", 0, 0)))
        self.refuses(of_row(["write", 0, 0]), of_row(("Write", 0, 0)), of_row(None), of_row(()))

    def test_look_rows(self):
        kinds = (KIND, ("torn", 3, 0))
        for whom in ("others", "lower", "higher"):
            self.takes(of_row(("look", whom, 0, (), 1)), of_row(("look", whom, 0, (0, 1), 2)))
            self.takes(of_row(("look", whom, 1, (0, 2), 1), kinds))
        for whom in ("other", "Others", "", 0, None, True, b"lower", ["lower"], ("lower",)):
            self.refuses(of_row(("look", whom, 0, (), 1)))
        self.refuses(of_row(("look", 0, (0,), 1)), of_row(("look", "others", (0,), 1)), of_row(("look",)))
        self.refuses(of_row(("look", "others", 0, (0,), 1, 1)), of_row(["look", "others", 0, (0,), 1]))
        self.refuses(of_row(("look", "others", 1, (), 1)), of_row(("look", "others", -1, (), 1)))
        self.refuses(of_row(("look", "others", False, (), 1)), of_row(("look", "others", None, (), 1)))
        for word in ("Look", "write", "", b"look", None, 0):
            self.refuses(of_row((word, "others", 0, (0,), 1)))
        for numbers in ((2,), (-1,), (1, 0), (0, 0), (True,), [0], None, 0, "0", {0}, ((0,),)):
            self.refuses(of_row(("look", "others", 0, numbers, 1)))
        for place in (0, 3, -1, True, None, "1", (1,)):
            self.refuses(of_row(("look", "others", 0, (), place)))

    def test_a_place_is_from_1_to_within(self):
        for place in (1, 2, 3):
            self.takes(of_program(0, 3, (WRITE, ("look", "others", 0, (), place), WRITE, WRITE)))
        for place in (0, 4):
            self.refuses(of_program(0, 3, (WRITE, ("look", "others", 0, (), place), WRITE, WRITE)))

    def test_of_any_kind(self):
        self.refuses(*helper.ODD)
        self.refuses(helper.peterson(), helper.flags(1), list(helper.flags_template()), helper.flags_template()[:1])
        self.refuses(helper.flags_template() + ((),), (helper.flags_template(),))
        for odd in helper.ODD:
            kinds, (door, within, rows) = helper.flags_template()
            self.refuses((odd, (door, within, rows)), (kinds, odd), (kinds, (odd, within, rows)))
            self.refuses((kinds, (door, odd, rows)), (kinds, (door, within, odd)))
            self.refuses(of_row(odd), of_kinds(odd), of_row(("look", odd, 0, (), 1)), of_row((odd, 0, 0)))
            self.refuses(of_row(("write", odd, 0)), of_row(("write", 0, odd)), of_row(("look", "others", odd, (), 1)))
            self.refuses(of_row(("look", "others", 0, (), odd)))


class WaysOfTemplates(unittest.TestCase):
    def test_flags(self):
        for kind in helper.KINDS:
            for many in (1, 2, 3, 4):
                self.assertEqual(way_for(helper.flags_template(kind), many), helper.flags(many, kind))

    def test_onebit(self):
        template = helper.onebit_template()
        self.assertEqual(way_for(template, 2), helper.onebit())
        self.assertEqual(way_for(template, 1), ((KIND,), ((0, 3, (("write", 0, 0), ("write", 0, 1), ("write", 0, 0))),)))
        self.assertEqual(way_for(template, 3), ((KIND,) * 3, (
            (0, 5, (("write", 0, 0), ("write", 0, 1), ("look", 1, (0,), 3), ("look", 2, (0,), 3), ("write", 0, 0))),
            (0, 6, (("write", 1, 0), ("look", 0, (0,), 2), ("write", 1, 1), ("look", 0, (0,), 1), ("look", 2, (0,), 5),
                    ("write", 1, 0))),
            (0, 7, (("write", 2, 0), ("look", 0, (0,), 2), ("look", 1, (0,), 2), ("write", 2, 1), ("look", 0, (0,), 1),
                    ("look", 1, (0,), 1), ("write", 2, 0))))))

    def test_two_kinds(self):
        kinds = (("torn", 2, 1), ("either", 3, 2))
        rows = (("write", 1, 2), ("look", "others", 1, (0, 2), 3), ("look", "higher", 0, (1,), 2), ("write", 0, 0),
                ("write", 1, 0))
        self.assertEqual(way_for((kinds, (2, 4, rows)), 3), (kinds * 3, (
            (3, 6, (("write", 1, 2), ("look", 3, (0, 2), 4), ("look", 5, (0, 2), 4), ("look", 2, (1,), 2),
                    ("look", 4, (1,), 2), ("write", 0, 0), ("write", 1, 0))),
            (3, 5, (("write", 3, 2), ("look", 1, (0, 2), 4), ("look", 5, (0, 2), 4), ("look", 4, (1,), 2),
                    ("write", 2, 0), ("write", 3, 0))),
            (3, 4, (("write", 5, 2), ("look", 1, (0, 2), 4), ("look", 3, (0, 2), 4), ("write", 4, 0),
                    ("write", 5, 0))))))

    def test_places_of_rows_of_which_none_come(self):
        # For hand 0 rows 1 and 3 come to nothing, for the last hand row 2 does; places go on to what is behind.
        rows = (("look", "lower", 0, (0,), 3), ("look", "higher", 0, (0,), 3), ("look", "lower", 0, (1,), 1),
                ("write", 0, 1))
        self.assertEqual(way_for(((KIND,), (3, 4, rows)), 2), ((KIND,) * 2, (
            (1, 2, (("look", 1, (0,), 2), ("write", 0, 1))),
            (2, 3, (("look", 0, (0,), 2), ("look", 0, (1,), 1), ("write", 1, 1))))))
        self.assertEqual(way_for(((KIND,), (3, 4, rows)), 1), ((KIND,), ((0, 1, (("write", 0, 1),)),)))

    def test_the_longest(self):
        looks = tuple(("look", "others", 0, (0,), place) for place in (1, 2, 3, 4, 6))
        way = way_for(((KIND,), (5, 6, looks + (("write", 0, 1),))), 4)
        self.assertEqual([(door, within, len(rows)) for door, within, rows in way[1]], [(15, 16, 16)] * 4)
        self.assertEqual([row[3] for row in way[1][2][2][:15]], [1, 1, 1, 4, 4, 4, 7, 7, 7, 10, 10, 10, 16, 16, 16])

    def test_random_templates(self):
        for number in range(500):
            template = helper.random_template(number, 8)
            if sum(1 if row[0] == "write" else 3 for row in template[1][2]) > 16:
                self.assertFalse(is_template(template))
                continue
            for many in (1, 2, 3, 4):
                way = way_for(template, many)
                self.assertEqual(way, helper.expand(template, many))
                self.assertTrue(is_way(way))


class Refusals(unittest.TestCase):
    def test_no_template_then_no_many(self):
        for odd in helper.ODD:
            with self.assertRaises(NoTemplate):
                way_for(odd, odd)
            with self.assertRaises(NoMany):
                way_for(helper.flags_template(), odd)
        for many in (0, 5, -1, 12):
            with self.assertRaises(NoMany):
                way_for(helper.onebit_template(), many)

    def test_nothing_changes(self):
        template = helper.onebit_template()
        kept = copy.deepcopy(template)
        first = way_for(template, 4)
        self.assertEqual(way_for(template, 4), first)
        self.assertEqual(template, kept)


if __name__ == "__main__":
    unittest.main()
