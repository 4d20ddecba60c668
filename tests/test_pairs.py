"""Point 20: pairs of a template, and their steps."""

import copy
import unittest

import helper
from onewithin.errors import NoPair, NoTemplate, TooMany
from onewithin.pairs import all_pairs, first_pair, pair_steps
from onewithin.templates import way_for

TEMPLATES = [helper.flags_template(kind) for kind in helper.KINDS]
TEMPLATES += [helper.onebit_template(kind) for kind in helper.KINDS]


class Steps(unittest.TestCase):
    def test_the_first_pair(self):
        self.assertEqual(first_pair(helper.flags_template()), ((0, 0), (0, 0)))
        kinds = (("torn", 5, 3), ("whole", 2, 1))
        self.assertEqual(first_pair((kinds, (0, 1, (("write", 1, 0),)))), ((0, 0), (3, 1, 3, 1)))

    def test_outside_and_writing_whole(self):
        template = helper.flags_template()
        self.assertEqual(pair_steps(template, ((0, 2), (0, 0))),
                         (((0, None), ((2, 2), (0, 0))), ((1, None), ((0, 4), (0, 1)))))
        # From the last row outside.
        self.assertEqual(pair_steps(template, ((6, 0), (1, 0))),
                         (((0, None), ((0, 0), (0, 0))), ((1, None), ((6, 2), (1, 0)))))

    def test_writing_takes_two_steps_of_other_kinds(self):
        for kind in ("either", "torn"):
            template = helper.flags_template(kind)
            self.assertEqual(pair_steps(template, ((2, 3), (0, 0))),
                             (((0, None), ((3, 3), (0, 0))), ((1, None), ((2, 4), (0, 1)))))

    def test_a_look_at_the_other(self):
        template = helper.flags_template()
        # Hand 0 sees 0 and has looked then; hand 1 sees 1, and is where it was.
        self.assertEqual(pair_steps(template, ((4, 4), (1, 0))),
                         (((0, 0), ((5, 4), (1, 0))), ((0, "back"), ((4, 4), (1, 0))),
                          ((1, 1), ((4, 4), (1, 0))), ((1, "back"), ((4, 4), (1, 0)))))
        # Who has looked goes on, or back as a third one makes it.
        self.assertEqual(pair_steps(template, ((5, 0), (1, 0))),
                         (((0, "on"), ((6, 0), (1, 0))), ((0, "back"), ((4, 0), (1, 0))),
                          ((1, None), ((5, 2), (1, 0)))))

    def test_whom_has_the_other(self):
        template = helper.onebit_template()
        # Row 2 looks at the lower: for hand 0 there is none of the two, it goes on or back.
        self.assertEqual(pair_steps(template, ((4, 4), (0, 0))),
                         (((0, "on"), ((6, 4), (0, 0))), ((0, "back"), ((4, 4), (0, 0))),
                          ((1, 0), ((4, 5), (0, 0))), ((1, "back"), ((4, 4), (0, 0)))))
        # Row 5 looks at the higher.
        self.assertEqual(pair_steps(template, ((10, 10), (1, 1))),
                         (((0, 1), ((10, 10), (1, 1))), ((0, "back"), ((10, 10), (1, 1))),
                          ((1, "on"), ((10, 12), (1, 1))), ((1, "back"), ((10, 10), (1, 1)))))
        # Row 4 leads back to row 1.
        self.assertEqual(pair_steps(template, ((0, 8), (1, 1)))[1:],
                         (((1, 1), ((0, 2), (1, 1))), ((1, "back"), ((0, 2), (1, 1)))))

    def test_amid_a_writing(self):
        rows = (("write", 0, 2), ("look", "others", 0, (0, 2), 3), ("write", 0, 0))
        for kind, numbers in (("either", (1, 2)), ("torn", (0, 1, 2))):
            template = (((kind, 3, 1),), (0, 3, rows))
            told = pair_steps(template, ((4, 3), (1, 1)))[:-1]
            self.assertEqual([step for step, behind in told], [(0, number) for number in numbers] + [(0, "back")])
            for (hand, what), behind in told:
                self.assertEqual(behind, ((5, 3), (1, 1)) if what in (0, 2) else ((6, 3), (1, 1)))
            # Nothing is being written where the other has looked at its row, though its spot is odd, too.
            told = pair_steps(template, ((4, 5), (1, 1)))
            self.assertEqual([step for step, behind in told], [(0, 1), (0, "back"), (1, "on"), (1, "back")])

    def test_amid_the_writing_of_another_kind(self):
        kinds = (("torn", 2, 0), ("torn", 2, 0))
        rows = (("write", 1, 1), ("look", "others", 0, (0,), 1), ("look", "others", 1, (0,), 1), ("write", 0, 0))
        template = (kinds, (0, 4, rows))
        self.assertEqual([step for step, behind in pair_steps(template, ((4, 3), (0, 0, 0, 0)))[:-1]],
                         [(0, 0), (0, "back")])
        self.assertEqual([step for step, behind in pair_steps(template, ((6, 3), (0, 0, 0, 0)))[:-1]],
                         [(0, 0), (0, 1), (0, "back")])
        # Each has its own two boxes: 0 the first two, 1 the last two.
        self.assertEqual(pair_steps(template, ((3, 3), (0, 0, 0, 0))),
                         (((0, None), ((4, 3), (0, 1, 0, 0))), ((1, None), ((3, 4), (0, 0, 0, 1)))))
        self.assertEqual(pair_steps(template, ((6, 6), (0, 1, 0, 0)))[0], ((0, 0), ((7, 6), (0, 1, 0, 0))))
        self.assertEqual(pair_steps(template, ((6, 6), (0, 1, 0, 0)))[2], ((1, 1), ((6, 2), (0, 1, 0, 0))))

    def test_by_a_second_telling(self):
        for template in TEMPLATES:
            for pair in helper.pairs_come_to(template):
                self.assertEqual(pair_steps(template, pair), tuple(helper.pair_steps(template, pair)))
        for number in range(150):
            template = helper.random_template(number)
            for pair in sorted(helper.pairs_come_to(template))[:200]:
                self.assertEqual(pair_steps(template, pair), tuple(helper.pair_steps(template, pair)))

    def test_pairs_not_come_to(self):
        # Any numbers in the boxes, any two spots there are.
        for template in (helper.flags_template(), helper.onebit_template("torn")):
            spots = [self.spots(template, hand) for hand in (0, 1)]
            for low in spots[0]:
                for high in spots[1]:
                    for values in ((0, 0), (0, 1), (1, 0), (1, 1)):
                        pair = ((low, high), values)
                        self.assertEqual(pair_steps(template, pair), tuple(helper.pair_steps(template, pair)))

    def spots(self, template, hand):
        found = [0]
        for number, row in enumerate(template[1][2], 1):
            found.append(2 * number)
            if row[0] == "look" and helper.whom_has(row[1], hand, 1 - hand):
                found.append(2 * number + 1)
            if row[0] == "write" and template[0][row[1]][0] != "whole":
                found.append(2 * number + 1)
        return found

    def test_which_spots_there_are(self):
        for template in TEMPLATES:
            size = len(template[1][2])
            for hand in (0, 1):
                for spot in range(-1, 2 * size + 4):
                    spots = (spot, 0) if hand == 0 else (0, spot)
                    if spot in self.spots(template, hand):
                        self.assertIsInstance(pair_steps(template, (spots, (0, 1))), tuple)
                    else:
                        with self.assertRaises(NoPair):
                            pair_steps(template, (spots, (0, 1)))


class AllPairs(unittest.TestCase):
    def check(self, template):
        told = all_pairs(template)
        self.assertIsInstance(told, tuple)
        self.assertTrue(all(ahead < behind for ahead, behind in zip(told, told[1:])))
        self.assertEqual(set(told), helper.pairs_come_to(template))
        self.assertIn(first_pair(template), told)
        for pair in told:
            for step, behind in pair_steps(template, pair):
                self.assertIn(behind, set(told))

    def test_one_row(self):
        self.assertEqual(all_pairs(((("whole", 2, 0),), (0, 1, (("write", 0, 0),)))),
                         (((0, 0), (0, 0)), ((0, 2), (0, 0)), ((2, 0), (0, 0)), ((2, 2), (0, 0))))

    def test_known_templates(self):
        for template in TEMPLATES[:4]:
            self.check(template)

    def test_random_templates(self):
        for number in range(200):
            template = helper.random_template(number, 4)
            self.assertEqual(all_pairs(template), tuple(sorted(helper.pairs_come_to(template))))

    def test_just_3000(self):
        template = helper.pairs_3000()
        self.assertEqual(len(all_pairs(template)), 3000)
        self.assertEqual(all_pairs(template), tuple(sorted(helper.pairs_come_to(template))))
        self.assertEqual(len(helper.pairs_come_to(helper.pairs_3001())), 3001)
        with self.assertRaises(TooMany):
            all_pairs(helper.pairs_3001())

    def test_any_two_of_many_are_a_pair_come_to(self):
        # Whatever a third one does: each standing of the ways for 2 to 4 is a pair come to for any two hands.
        templates = [helper.random_template(number, 4) for number in range(120)] + TEMPLATES[:4]
        seen = 0
        for template in templates:
            pairs = set(all_pairs(template))
            for many in (2, 3, 4):
                far = helper.distances(way_for(template, many), 400)
                for standing in far or ():
                    for high in range(many):
                        for low in range(high):
                            self.assertIn(helper.pair_seen(template, many, standing, low, high), pairs)
                            seen += 1
        self.assertGreater(seen, 10000)


class Refusals(unittest.TestCase):
    def test_no_template_then_no_pair(self):
        for odd in helper.ODD:
            for ask in (first_pair, all_pairs):
                with self.assertRaises(NoTemplate):
                    ask(odd)
            with self.assertRaises(NoTemplate):
                pair_steps(odd, odd)
            with self.assertRaises(NoPair):
                pair_steps(helper.flags_template(), odd)
        for thing in (helper.peterson(), (((("whole", 2, 0),) * 3), helper.flags_template()[1])):
            with self.assertRaises(NoTemplate):
                pair_steps(thing, ((0, 0), (0, 0)))

    def test_what_is_no_pair(self):
        template = (helper.flags_template()[0] + (("torn", 3, 1),), helper.flags_template()[1])
        self.assertEqual(len(pair_steps(template, ((0, 0), (0, 0, 1, 2)))), 2)
        for odd in (((0, 0), (0, 0, 1, 3)), ((0, 0), (2, 0, 1, 2)), ((0, 0), (0, 0, 1)), ((0, 0), (0, 0, 1, 2, 0)),
                    ((0,), (0, 0, 1, 2)), ((0, 0, 0), (0, 0, 1, 2)), ([0, 0], (0, 0, 1, 2)), ((0, 0), [0, 0, 1, 2]),
                    [(0, 0), (0, 0, 1, 2)], ((0, 0), (0, 0, 1, 2), ()), ((0, 0),), ((0, False), (0, 0, 1, 2)),
                    ((0, 0), (0, False, 1, 2)), ((0, 0), (0, 0, True, 2)), ((0, -2), (0, 0, 1, 2)),
                    ((0, 0), (0, -1, 1, 2)), ((0, 1), (0, 0, 1, 2)), ((0, 3), (0, 0, 1, 2)), ((8, 0), (0, 0, 1, 2)),
                    ((0, None), (0, 0, 1, 2)), (("0", 0), (0, 0, 1, 2)), ((0, 0), ((0, 0), (1, 2)))):
            with self.assertRaises(NoPair):
                pair_steps(template, odd)
        for odd in helper.ODD:
            for thing in ((odd, (0, 0, 1, 2)), ((0, 0), odd), ((0, odd), (0, 0, 1, 2)), ((odd, 0), (0, 0, 1, 2)),
                          ((0, 0), (0, 0, 1, odd))):
                with self.assertRaises(NoPair):
                    pair_steps(template, thing)

    def test_nothing_changes(self):
        template = helper.onebit_template()
        kept = copy.deepcopy(template)
        told = first_pair(template), all_pairs(template), pair_steps(template, ((4, 4), (0, 0)))
        self.assertEqual((first_pair(template), all_pairs(template), pair_steps(template, ((4, 4), (0, 0)))), told)
        self.assertEqual(template, kept)


if __name__ == "__main__":
    unittest.main()
