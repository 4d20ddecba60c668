"""Points 2 and 3: what is promised over the whole program."""

import copy
import os
import pathlib
import random
import subprocess
import sys
import unittest

import helper
import truths
from onewithin.alone import alone, hidden
from onewithin.anymany import for_any
from onewithin.checker import holds
from onewithin.errors import TooMany, WayError
from onewithin.kinds import with_kind
from onewithin.known import known_template, known_way
from onewithin.pairs import all_pairs, first_pair, pair_steps
from onewithin.papers import paper_any, paper_goings, paper_kept, paper_stuck, paper_tree, paper_turn, paper_two
from onewithin.rings import kept_out, stuck
from onewithin.runs import run_from
from onewithin.safety import two_within
from onewithin.standings import first_standing, is_standing, steps_from
from onewithin.tables import all_standings, run_to
from onewithin.templates import is_template, way_for
from onewithin.trees import tree
from onewithin.turns import most_goings, out_of_turn
from onewithin.ways import is_node, is_way, part_at
from onewithin.waytexts import read_template, read_way, show_template, show_way

TOP = pathlib.Path(__file__).resolve().parent.parent


def asks_of(way, template, node):
    """Questions with their arguments, each function of the program with some."""
    here = first_standing(way)
    found = [(function, (way,)) for function in (
        is_way, first_standing, all_standings, two_within, stuck, paper_two, paper_stuck, show_way)]
    found += [(is_standing, (way, here)), (steps_from, (way, here)), (run_from, (way, here, ((0, None),))),
              (run_to, (way, here)), (with_kind, (way, "whole")), (read_way, (show_way(way),))]
    for hand in range(len(way[1])):
        found += [(function, (way, hand)) for function in (kept_out, most_goings, alone, paper_kept, paper_goings)]
        found.append((part_at, (way, hand, 1)))
        for other in range(len(way[1])):
            if hand != other:
                found += [(function, (way, hand, other)) for function in (out_of_turn, hidden, paper_turn)]
    found += [(function, (template,)) for function in (is_template, first_pair, all_pairs, for_any, paper_any, show_template)]
    found += [(way_for, (template, 3)), (pair_steps, (template, first_pair(template))),
              (read_template, (show_template(template),)), (tree, (node, 3)), (paper_tree, (node, 3)),
              (known_way, ("filter", 3)), (known_template, ("onebit",)), (holds, paper_two(way)),
              (holds, (("two", way), [1]))]
    return found


def refused_asks():
    """Questions that are refused."""
    return [(function, (None,)) for function in (all_standings, two_within, stuck, paper_two, for_any, show_way, read_way)] + [
        (kept_out, (helper.peterson(), 2)), (most_goings, (helper.vast(), 0)), (two_within, (helper.just_3001(),)),
        (out_of_turn, (helper.peterson(), 0, 0)), (run_from, (helper.peterson(), ((0, 0), (0, 0, 0)), ((0, 1),))),
        (with_kind, (helper.peterson(), "torn")), (tree, (helper.peterson(), 5)), (known_way, ("turns", 9)),
        (all_pairs, (helper.pairs_3001(),)), (read_way, ("box",)), (paper_tree, (helper.vast_node(), 2))]


def many_asks():
    found = []
    for way, template, node in (
            (helper.peterson(), known_template("flags"), helper.peterson()),
            (helper.dekker(), known_template("onebit"), helper.turns(2)),
            (helper.flags(3, "torn"), helper.breaks_by_3(), helper.flags(2)),
            (helper.turns(4), helper.flags_template("either"), helper.careless(2)),
            (helper.random_way(7), helper.random_template(7), known_way("filter", 2))):
        found += asks_of(way, template, node)
    return found


class Answers(unittest.TestCase):
    def test_nothing_that_is_handed_in_is_changed(self):
        for function, arguments in many_asks():
            kept = copy.deepcopy(arguments)
            function(*arguments)
            self.assertEqual(repr(arguments), repr(kept), function)
        lists = [["two", [helper.peterson()]], {"a": [0, (1, [2])]}, [[0, None]]]
        kept = copy.deepcopy(lists)
        for thing in lists:
            for function in (is_way, is_template, is_node):
                self.assertIs(function(thing), False)
            for function in (all_standings, for_any, stuck, read_way, paper_any, first_pair, show_template):
                self.assertRaises(WayError, function, thing)
            self.assertRaises(WayError, run_from, helper.peterson(), ((0, 0), (0, 0, 0)), thing)
            self.assertIs(holds(thing, thing), False)
        self.assertEqual(lists, kept)

    def test_the_same_answers_behind_others_and_behind_refusals(self):
        asks = many_asks()
        first = [repr(function(*arguments)) for function, arguments in asks]
        order = list(range(len(asks)))
        chance = random.Random(5)
        for _ in range(2):
            chance.shuffle(order)
            for number in order:
                function, arguments = chance.choice(refused_asks())
                self.assertRaises(WayError, function, *arguments)
                function, arguments = asks[number]
                self.assertEqual(repr(function(*arguments)), first[number], function)

    def test_answers_are_made_of_tuples(self):
        # Nothing can be done to them, so that they are the asker's own.
        def check(thing):
            self.assertIn(type(thing), (tuple, str, int, bool, type(None)))
            for part in thing if type(thing) is tuple else ():
                check(part)
        for function, arguments in many_asks():
            check(function(*arguments))

    def test_equal_arguments_have_equal_answers(self):
        for function, arguments in many_asks():
            self.assertEqual(repr(function(*copy.deepcopy(arguments))), repr(function(*arguments)), function)

    def test_the_same_in_another_process(self):
        # Where texts have other hashes than here.
        rows = "import test_whole; print([function(*given) for function, given in test_whole.many_asks()])"
        told = set()
        for seed in ("0", "1", "77"):
            given = dict(os.environ, PYTHONHASHSEED=seed, PYTHONPATH=f"{TOP}{os.pathsep}{TOP / 'tests'}")
            told.add(subprocess.run([sys.executable, "-c", rows], env=given, capture_output=True, text=True,
                                    check=True).stdout)
        self.assertEqual(told, {repr([function(*arguments) for function, arguments in many_asks()]) + "\n"})


class WhatIsTold(unittest.TestCase):
    def papers_of(self, way):
        found = [paper_two(way), paper_stuck(way)]
        for hand in range(len(way[1])):
            found.append(paper_kept(way, hand))
            found += paper_goings(way, hand)
            found += [paper_turn(way, hand, other) for other in range(len(way[1])) if other != hand]
        return found

    def test_all_is_so_and_taken(self):
        for number in range(2000, 2300):
            way = helper.random_way(number, 4, 3)
            far = helper.distances(way, 60)
            if far is not None:
                for claim, paper in self.papers_of(way):
                    self.assertTrue(truths.is_so(claim, far), claim)
                    self.assertIs(holds(claim, paper), True, claim)

    def test_all_of_the_known_ways_is_taken(self):
        for name, many in (("turns", 2), ("turns", 3), ("turns", 4), ("peterson", 2), ("dekker", 2), ("filter", 2),
                           ("flags", 2), ("flags", 3), ("flags", 4), ("onebit", 2), ("onebit", 3)):
            for claim, paper in self.papers_of(known_way(name, many)):
                self.assertIs(holds(claim, paper), True, claim)
        for name in ("flags", "onebit"):
            self.assertIs(holds(*paper_any(known_template(name))), True)
        for kind in ("either", "torn"):
            for claim, paper in self.papers_of(with_kind(known_way("flags", 2), kind)):
                self.assertIs(holds(claim, paper), True, claim)

    def test_what_questions_and_papers_tell_is_the_same(self):
        for way, far in helper.small_ways(150, 60):
            self.assertEqual(two_within(way) is None, paper_two(way)[0][0] == "never two")
            self.assertEqual(stuck(way) is None, paper_stuck(way)[0][0] == "not stuck")
            for hand in range(len(way[1])):
                self.assertEqual(kept_out(way, hand) is None, paper_kept(way, hand)[0][0] == "not kept out")
                claim = paper_goings(way, hand)[0][0]
                self.assertEqual(most_goings(way, hand), None if claim[0] == "endless" else claim[3])


class FewBoxes(unittest.TestCase):
    """A way with fewer boxes than hands, or of two hands with the same program, breaks or sticks."""

    def check(self, way):
        try:
            run = two_within(way)
        except TooMany:
            return 0
        self.assertFalse(run is None and stuck(way) is None, way)
        return 1

    def test_fewer_boxes_than_hands(self):
        asked = 0
        for number in range(2500):
            boxes, hands = helper.random_way(number, 4, 5)
            if len(boxes) < len(hands):
                asked += self.check((boxes, hands))
        self.assertGreater(asked, 500)

    def test_good_ways_with_too_few_boxes(self):
        asked = 0
        for boxes, hands in (helper.peterson(), helper.dekker(), helper.onebit(), helper.flags(2), helper.flags(3),
                             helper.turns(2), helper.turns(3), known_way("filter", 2), known_way("onebit", 3)):
            for many in range(1, len(hands)):
                # Each row has another box, one of so many, for its own.
                moved = tuple((door, within, tuple(row[:1] + (row[1] % many,) + row[2:] for row in rows))
                              for door, within, rows in hands)
                asked += self.check((boxes[:1] * many, moved))
        self.assertGreater(asked, 10)

    def test_the_same_program(self):
        asked = 0
        for number in range(2000):
            boxes, hands = helper.random_way(number, 1, 6)
            whole = tuple(("whole", size, start) for kind, size, start in boxes)
            asked += self.check((whole, hands * 2))
            if is_way((boxes, hands * 2)):
                asked += self.check((boxes, hands * 2))
        self.assertGreater(asked, 1500)


class NearPeterson(unittest.TestCase):
    def near(self, number):
        """Peterson or filter of 2 with some parts put otherwise."""
        chance = random.Random(number)
        boxes, programs = chance.choice((helper.peterson(), known_way("filter", 2)))
        boxes = list(boxes)
        hands = [[door, within, list(rows)] for door, within, rows in programs]
        for _ in range(chance.randint(1, 3)):
            hand = chance.choice(hands)
            change = chance.randrange(4)
            at = chance.randrange(len(hand[2]))
            if change == 0:
                boxes[at % 3] = ("whole", chance.choice((2, 3)), chance.randrange(2))
            elif change == 1:
                hand[0] = chance.randrange(hand[1])
            elif change == 2 and hand[2][at][0] == "look":
                numbers = tuple(value for value in (0, 1) if chance.random() < 0.5)
                hand[2][at] = hand[2][at][:2] + (numbers, chance.randint(1, hand[1]))
            else:
                hand[2].append(("write", chance.randrange(3), chance.randrange(2)))
        return tuple(boxes), tuple((door, within, tuple(rows)) for door, within, rows in hands)

    def test_trees_keep_what_their_nodes_keep(self):
        seen = {}
        for number in range(160):
            node = self.near(number)
            if not is_node(node) or node in seen or two_within(node) is not None:
                continue
            way = tree(node, 3)
            if helper.distances(way, 1500) is None:
                continue
            self.assertIsNone(two_within(way), node)
            self.assertIs(holds(*paper_tree(node, 3)), True)
            seen[node] = all(kept_out(node, hand) is None for hand in (0, 1))
            if seen[node]:
                self.assertEqual([kept_out(way, hand) for hand in range(3)], [None] * 3, node)
        self.assertGreater(list(seen.values()).count(True), 8)


if __name__ == "__main__":
    unittest.main()
