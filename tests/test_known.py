"""Point 23: the known ways and templates."""

import unittest

import helper
from onewithin.errors import NoMany, NoName
from onewithin.known import known_template, known_way
from onewithin.rings import kept_out, stuck
from onewithin.safety import two_within
from onewithin.templates import is_template, way_for
from onewithin.ways import is_way

MANY = {"turns": (2, 3, 4), "peterson": (2,), "dekker": (2,), "filter": (2, 3), "flags": (2, 3, 4),
        "onebit": (2, 3, 4)}
BIT = ("whole", 2, 0)


class KnownWays(unittest.TestCase):
    def test_turns(self):
        self.assertEqual(known_way("turns", 2), ((BIT,), (
            (0, 2, (("look", 0, (0,), 1), ("write", 0, 1))), (0, 2, (("look", 0, (1,), 1), ("write", 0, 0))))))
        self.assertEqual(known_way("turns", 4), ((("whole", 4, 0),), (
            (0, 2, (("look", 0, (0,), 1), ("write", 0, 1))), (0, 2, (("look", 0, (1,), 1), ("write", 0, 2))),
            (0, 2, (("look", 0, (2,), 1), ("write", 0, 3))), (0, 2, (("look", 0, (3,), 1), ("write", 0, 0))))))
        for many in (2, 3, 4):
            self.assertEqual(known_way("turns", many), helper.turns(many))

    def test_peterson(self):
        self.assertEqual(known_way("peterson", 2), ((BIT,) * 3, (
            (2, 5, (("write", 0, 1), ("write", 2, 1), ("look", 1, (1,), 5), ("look", 2, (0,), 3), ("write", 0, 0))),
            (2, 5, (("write", 1, 1), ("write", 2, 0), ("look", 0, (1,), 5), ("look", 2, (1,), 3), ("write", 1, 0))))))

    def test_dekker(self):
        self.assertEqual(known_way("dekker", 2), ((BIT,) * 3, (
            (1, 8, (("write", 0, 1), ("look", 1, (1,), 8), ("look", 2, (1,), 2), ("write", 0, 0), ("look", 2, (0,), 5),
                    ("write", 0, 1), ("look", 1, (0,), 7), ("write", 2, 1), ("write", 0, 0))),
            (1, 8, (("write", 1, 1), ("look", 0, (1,), 8), ("look", 2, (0,), 2), ("write", 1, 0), ("look", 2, (1,), 5),
                    ("write", 1, 1), ("look", 0, (0,), 7), ("write", 2, 0), ("write", 1, 0))))))

    def test_filter_of_2(self):
        self.assertEqual(known_way("filter", 2), ((BIT,) * 3, (
            (2, 5, (("write", 0, 1), ("write", 2, 0), ("look", 2, (0,), 5), ("look", 1, (0,), 3), ("write", 0, 0))),
            (2, 5, (("write", 1, 1), ("write", 2, 1), ("look", 2, (1,), 5), ("look", 0, (0,), 3), ("write", 1, 0))))))

    def test_filter_of_3(self):
        self.assertEqual(known_way("filter", 3), ((("whole", 3, 0),) * 5, (
            (2, 11, (("write", 0, 1), ("write", 3, 0), ("look", 3, (0,), 6), ("look", 1, (0,), 3), ("look", 2, (0,), 3),
                     ("write", 0, 2), ("write", 4, 0), ("look", 4, (0,), 11), ("look", 1, (0, 1), 8),
                     ("look", 2, (0, 1), 8), ("write", 0, 0))),
            (2, 11, (("write", 1, 1), ("write", 3, 1), ("look", 3, (1,), 6), ("look", 0, (0,), 3), ("look", 2, (0,), 3),
                     ("write", 1, 2), ("write", 4, 1), ("look", 4, (1,), 11), ("look", 0, (0, 1), 8),
                     ("look", 2, (0, 1), 8), ("write", 1, 0))),
            (2, 11, (("write", 2, 1), ("write", 3, 2), ("look", 3, (2,), 6), ("look", 0, (0,), 3), ("look", 1, (0,), 3),
                     ("write", 2, 2), ("write", 4, 2), ("look", 4, (2,), 11), ("look", 0, (0, 1), 8),
                     ("look", 1, (0, 1), 8), ("write", 2, 0))))))

    def test_flags(self):
        for many in (2, 3, 4):
            self.assertEqual(known_way("flags", many), helper.flags(many))

    def test_onebit(self):
        self.assertEqual(known_way("onebit", 2), helper.onebit())
        for many in (2, 3, 4):
            self.assertEqual(known_way("onebit", many), way_for(helper.onebit_template(), many))
            self.assertEqual(known_way("onebit", many), helper.expand(helper.onebit_template(), many))

    def test_all_are_ways_of_so_many(self):
        for name in MANY:
            for many in MANY[name]:
                way = known_way(name, many)
                self.assertTrue(is_way(way))
                self.assertEqual(len(way[1]), many)
                self.assertTrue(all((kind, start) == ("whole", 0) for kind, size, start in way[0]))

    def test_never_two_within(self):
        for name, many in (("turns", 4), ("peterson", 2), ("dekker", 2), ("filter", 2), ("filter", 3), ("flags", 4),
                           ("onebit", 3)):
            self.assertIsNone(two_within(known_way(name, many)))

    def test_nobody_is_kept_out(self):
        for name, many in (("peterson", 2), ("dekker", 2), ("filter", 2), ("filter", 3)):
            way = known_way(name, many)
            self.assertIsNone(stuck(way))
            self.assertEqual([kept_out(way, hand) for hand in range(many)], [None] * many)


class KnownTemplates(unittest.TestCase):
    def test_both(self):
        self.assertEqual(known_template("flags"), ((BIT,), (1, 3, (
            ("write", 0, 1), ("look", "others", 0, (0,), 2), ("write", 0, 0)))))
        self.assertEqual(known_template("onebit"), ((BIT,), (0, 6, (
            ("write", 0, 0), ("look", "lower", 0, (0,), 2), ("write", 0, 1), ("look", "lower", 0, (0,), 1),
            ("look", "higher", 0, (0,), 5), ("write", 0, 0)))))
        for name in ("flags", "onebit"):
            self.assertTrue(is_template(known_template(name)))

    def test_other_names(self):
        for odd in helper.ODD + ("peterson", "dekker", "turns", "filter", "Flags", "flags ", b"flags", ["flags"], 0):
            with self.assertRaises(NoName):
                known_template(odd)


class Refusals(unittest.TestCase):
    def test_no_name_then_no_many(self):
        for odd in helper.ODD + ("Peterson", "peterson ", "flag", b"turns", ["turns"], ("turns",), 0):
            for many in (2, 0, None, odd):
                with self.assertRaises(NoName):
                    known_way(odd, many)
        for name in MANY:
            for odd in helper.ODD:
                with self.assertRaises(NoMany):
                    known_way(name, odd)
            for many in range(-1, 8):
                if many not in MANY[name]:
                    with self.assertRaises(NoMany):
                        known_way(name, many)

    def test_the_same_each_time(self):
        for name in MANY:
            for many in MANY[name]:
                self.assertEqual(known_way(name, many), known_way(name, many))


if __name__ == "__main__":
    unittest.main()
