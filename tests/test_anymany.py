"""Point 21: what is told of a template for any many of hands."""

import copy
import unittest

import helper
from onewithin.anymany import for_any
from onewithin.errors import NoTemplate, TooMany
from onewithin.pairs import all_pairs
from onewithin.safety import two_within
from onewithin.templates import is_template, way_for


class ForAny(unittest.TestCase):
    def both_within(self, template):
        within = template[1][1]
        return any(spots[0] // 2 == within == spots[1] // 2 for spots, values in helper.pairs_come_to(template))

    def check(self, template):
        """What is told, once it is so by all pairs and all standings of the ways for 2 and 3."""
        told = for_any(template)
        self.assertIsInstance(told, tuple)
        if not self.both_within(template):
            self.assertEqual(told, ("every",))
            return told
        for many in (2, 3):
            way = helper.expand(template, many)
            far = helper.distances(way)
            ends = [far[standing] for standing in far if helper.within_count(way, standing) >= 2]
            if ends:
                self.assertEqual(told[:2], ("breaks", many))
                self.assertEqual(len(told), 3)
                self.assertIsInstance(told[2], tuple)
                self.assertEqual(len(told[2]), min(ends))
                last = helper.walk(way, helper.start(way), told[2])[-1]
                self.assertGreaterEqual(helper.within_count(way, last), 2)
                return told
        self.assertEqual(told, ("open",))
        return told

    def test_every(self):
        self.assertEqual(self.check(helper.flags_template()), ("every",))
        self.assertEqual(self.check(helper.onebit_template()), ("every",))

    def test_breaks_by_2(self):
        template = ((("whole", 2, 0),), (0, 1, (("write", 0, 0),)))
        self.assertIn(for_any(template), (("breaks", 2, ((0, None), (1, None))), ("breaks", 2, ((1, None), (0, None)))))
        for kind in ("either", "torn"):
            self.assertEqual(len(self.check(helper.flags_template(kind))[2]), 9)
            self.assertEqual(self.check(helper.onebit_template(kind))[:2], ("breaks", 2))

    def test_breaks_by_3(self):
        told = self.check(helper.breaks_by_3())
        self.assertEqual(told[:2], ("breaks", 3))
        self.assertEqual(len(told[2]), 4)
        self.assertIsNone(two_within(way_for(helper.breaks_by_3(), 2)))

    def test_open(self):
        self.assertEqual(self.check(helper.never_seen()), ("open",))

    def test_random_templates(self):
        told = {}
        for number in range(400):
            kind = self.check(helper.random_template(number, 4))[:2]
            told[kind] = told.get(kind, 0) + 1
        self.assertGreater(told[("every",)], 10)
        self.assertGreater(told[("breaks", 2)], 100)
        self.assertGreaterEqual(told[("breaks", 3)], 1)
        self.assertGreaterEqual(told[("open",)], 1)

    def test_every_is_so_for_2_to_4(self):
        asked = 0
        for number in range(400):
            template = helper.random_template(number, 4)
            if for_any(template) == ("every",):
                for many in (2, 3, 4):
                    way = way_for(template, many)
                    if helper.distances(way, 1000) is not None:
                        self.assertIsNone(two_within(way))
                        asked += 1
        self.assertGreater(asked, 50)


class Refusals(unittest.TestCase):
    def test_no_template(self):
        for odd in helper.ODD + (helper.peterson(),):
            with self.assertRaises(NoTemplate):
                for_any(odd)

    def test_too_many_pairs_whatever_is_found_ahead(self):
        template = helper.pairs_3001()
        self.assertIsNotNone(two_within(way_for(template, 2)))
        with self.assertRaises(TooMany):
            for_any(template)

    def test_too_many_for_3_where_it_is_come_to(self):
        template = helper.large_for_3()
        self.assertTrue(is_template(template))
        self.assertLess(len(all_pairs(template)), 3000)
        self.assertIsNone(two_within(way_for(template, 2)))
        with self.assertRaises(TooMany):
            two_within(way_for(template, 3))
        with self.assertRaises(TooMany):
            for_any(template)

    def test_not_where_it_isnt_come_to(self):
        template = helper.large_and_broken()
        self.assertTrue(is_template(template))
        with self.assertRaises(TooMany):
            two_within(way_for(template, 3))
        self.assertEqual(for_any(template)[:2], ("breaks", 2))

    def test_nothing_changes(self):
        template = helper.breaks_by_3()
        kept = copy.deepcopy(template)
        self.assertEqual(for_any(template), for_any(template))
        self.assertEqual(template, kept)


if __name__ == "__main__":
    unittest.main()
