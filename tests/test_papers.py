"""Point 25: papers."""

import copy
import unittest

import helper
import second_checker
import truths
from onewithin.checker import holds
from onewithin.errors import NoHand, NoMany, NoNode, NoTemplate, NoWay, TooMany
from onewithin.known import known_template, known_way
from onewithin.papers import paper_any, paper_goings, paper_kept, paper_stuck, paper_tree, paper_turn, paper_two
from onewithin.rings import kept_out, stuck
from onewithin.safety import two_within
from onewithin.tables import all_standings
from onewithin.trees import tree
from onewithin.turns import most_goings, out_of_turn

QUICK = helper.plain_hand(1)
NEVER = (0, 2, (("look", 0, (), 1), ("write", 0, 0)))
BOX = ("whole", 2, 0)
OTHER = {"two": "never two", "kept out": "not kept out", "stuck": "not stuck", "out of turn": "in turn"}
OTHER.update({word: other for other, word in OTHER.items()})


def known_ways():
    return [helper.peterson(), helper.dekker(), helper.turns(2), helper.turns(3), helper.flags(2), helper.flags(3),
            helper.flags(2, "torn"), helper.onebit(), helper.onebit("either"), helper.careless(2),
            known_way("filter", 2), ((BOX,), (QUICK,)), ((BOX,), (NEVER, QUICK)), ((BOX,), (QUICK, QUICK, NEVER))]


class Papers(unittest.TestCase):
    def taken(self, told):
        """The claim and paper, once both are tuples and taken by the checker and by the second telling of it."""
        self.assertIsInstance(told, tuple)
        claim, paper = told
        self.assertIsInstance(paper, tuple)
        self.assertIs(holds(claim, paper), True, told)
        self.assertTrue(second_checker.takes(claim, paper), told)
        return claim, paper

    def check(self, told, far, parts, words):
        """One of the two words with these parts, as it is so; taken with its paper, and the other word isn't."""
        claim, paper = self.taken(told)
        self.assertIn(claim[0], words)
        self.assertEqual(claim[1:], parts)
        self.assertTrue(truths.is_so(claim, far), claim)
        self.assertIs(holds((OTHER[claim[0]],) + parts, paper), False, told)
        return claim[0], paper


class Ways(Papers):
    def check_two(self, way, far):
        word, paper = self.check(paper_two(way), far, (way,), ("two", "never two"))
        if word == "two":
            self.assertEqual(len(paper), min(far[here] for here in far if helper.within_count(way, here) >= 2))
            self.assertEqual(len(paper), len(two_within(way)))
        else:
            self.assertEqual(paper, tuple(sorted(far)))
            self.assertIsNone(two_within(way))
        return word

    def check_kept(self, way, far, hand):
        word, paper = self.check(paper_kept(way, hand), far, (way, hand), ("kept out", "not kept out"))
        self.assertEqual(kept_out(way, hand) is None, word == "not kept out")
        if word == "not kept out":
            self.assertEqual(tuple(standing for standing, mark in paper), tuple(sorted(far)))
        return word

    def check_stuck(self, way, far):
        word, paper = self.check(paper_stuck(way), far, (way,), ("stuck", "not stuck"))
        self.assertEqual(stuck(way) is None, word == "not stuck")
        if word == "not stuck":
            self.assertEqual(tuple(standing for standing, mark in paper), tuple(sorted(far)))
        return word

    def check_turn(self, way, far, hand, other):
        word, paper = self.check(paper_turn(way, hand, other), far, (way, hand, other), ("out of turn", "in turn"))
        if word == "out of turn":
            self.assertEqual(len(paper), truths.shortest_out_of_turn(way, far, hand, other))
            self.assertEqual(len(paper), len(out_of_turn(way, hand, other)))
        else:
            self.assertEqual(paper, truths.rows_of_truths(way, hand, other))
            self.assertIsNone(out_of_turn(way, hand, other))
        return word

    def check_goings(self, way, far, hand):
        told = paper_goings(way, hand)
        most = most_goings(way, hand)
        self.assertEqual(most, truths.greatest(way, far, hand))
        self.assertIsInstance(told, tuple)
        claims = [self.taken(row)[0] for row in told]
        if most is None:
            self.assertEqual(claims, [("endless", way, hand)])
            for number in (0, 1, 5):
                self.assertIs(holds(("goings", way, hand, number), told[0][1]), False)
            return "endless"
        self.assertEqual(claims, [("goings", way, hand, most)] + [("as many", way, hand, most)] * (most > 0))
        cover = told[0][1]
        self.assertEqual(tuple(standing for standing, mark in cover), tuple(sorted(far)))
        self.assertIs(holds(("goings", way, hand, most - 1), cover), False)
        self.assertIs(holds(("goings", way, hand, most + 1), cover), True)
        if most > 0:
            self.assertIs(holds(("as many", way, hand, most + 1), told[1][1]), False)
            self.assertIs(holds(("as many", way, hand, most - 1), told[1][1]), True)
            self.assertIs(holds(("endless", way, hand), told[1][1]), False)
        return "as many" if most > 0 else "goings"

    def check_all(self, way, far):
        hands = range(len(way[1]))
        words = [self.check_two(way, far), self.check_stuck(way, far)]
        words += [self.check_kept(way, far, hand) for hand in hands]
        words += [self.check_goings(way, far, hand) for hand in hands]
        return words + [self.check_turn(way, far, hand, other) for hand in hands for other in hands if hand != other]

    def test_known_ways(self):
        for way in known_ways():
            self.check_all(way, helper.distances(way))

    def test_random_ways(self):
        seen = []
        for way, far in helper.small_ways(250, 60):
            seen += self.check_all(way, far)
        for word in list(OTHER) + ["goings", "as many", "endless"]:
            self.assertGreater(seen.count(word), 15, word)

    def test_words(self):
        way = helper.peterson()
        self.assertEqual(paper_two(way), (("never two", way), all_standings(way)))
        self.assertEqual([paper_kept(way, hand)[0] for hand in (0, 1)], [("not kept out", way, 0), ("not kept out", way, 1)])
        self.assertEqual(paper_stuck(way)[0], ("not stuck", way))
        self.assertEqual(paper_turn(way, 1, 0)[0], ("in turn", way, 1, 0))
        self.assertEqual([claim for claim, paper in paper_goings(way, 1)],
                         [("goings", way, 1, 1), ("as many", way, 1, 1)])
        way = helper.dekker()
        self.assertEqual(paper_turn(way, 1, 0), (("out of turn", way, 1, 0), out_of_turn(way, 1, 0)))
        self.assertEqual([claim for claim, paper in paper_goings(way, 0)], [("endless", way, 0)])
        way = helper.flags(2)
        self.assertEqual(paper_stuck(way), (("stuck", way), stuck(way)))
        self.assertEqual(paper_kept(way, 1), (("kept out", way, 1), kept_out(way, 1)))
        self.assertEqual([claim for claim, paper in paper_goings(way, 1)], [("goings", way, 1, 0)])
        way = ((BOX,), (QUICK, QUICK))
        self.assertEqual(paper_two(way), (("two", way), two_within(way)))

    def test_marks_stand_just_where_they_are_due(self):
        for way in known_ways():
            for hand in range(len(way[1])):
                claim, paper = paper_kept(way, hand)
                if claim[0] == "not kept out":
                    for standing, mark in paper:
                        self.assertEqual(mark is not None, helper.on_its_way(way, standing, hand))

    def test_greater_numbers(self):
        # As in turns: hand 1 goes in for each 0 that hand 0 writes or wrote a round ago; hand 2 turns round.
        hand = (0, 16, tuple(("write", 0, value % 2) for value in range(1, 17)))
        other = (0, 3, (("look", 0, (1,), 1), ("look", 0, (0,), 2), ("look", 0, (0, 1), 3)))
        round_about = (0, 4, (("look", 0, (0, 1), 1), ("look", 0, (0, 1), 1), ("look", 0, (), 1), ("look", 0, (), 4)))
        way = ((BOX,), (hand, other, round_about))
        first, second = paper_goings(way, 0)
        self.assertEqual((first[0], second[0]), (("goings", way, 0, 8), ("as many", way, 0, 8)))
        self.assertTrue(holds(*first) and holds(*second))
        self.assertFalse(holds(("goings", way, 0, 7), first[1]) or holds(("as many", way, 0, 9), second[1]))
        for many in (2, 3, 4):
            way = helper.turns(many)
            for hand in range(many):
                first, second = paper_goings(way, hand)
                self.assertEqual((first[0][3], second[0][3]), (many - 1, many - 1))
                self.assertTrue(holds(*first) and holds(*second))

    def test_large_ways(self):
        for way in (helper.just_3000(), helper.long_ring(), helper.long_run()):
            told = [paper_two(way), paper_stuck(way)]
            for hand in range(len(way[1])):
                told.append(paper_kept(way, hand))
                told += paper_goings(way, hand)
                told.append(paper_turn(way, hand, (hand + 1) % len(way[1])))
            for claim, paper in told:
                self.assertIs(holds(claim, paper), True, claim)


class Templates(Papers):
    def test_every(self):
        for template in (known_template("flags"), known_template("onebit")):
            claim, paper = self.taken(paper_any(template))
            self.assertEqual(claim, ("every", template))
            self.assertEqual(paper, tuple(sorted(helper.pairs_come_to(template))))
            for many in (2, 3, 4):
                self.assertIs(holds(("breaks", template, many), paper), False)

    def test_breaks(self):
        for template, many, steps in ((helper.flags_template("torn"), 2, 9), (helper.breaks_by_3(), 3, 4),
                                      (helper.large_and_broken(), 2, 2)):
            claim, paper = self.taken(paper_any(template))
            self.assertEqual(claim, ("breaks", template, many))
            self.assertEqual(len(paper), steps)
            self.assertIs(holds(("every", template), paper), False)

    def test_open(self):
        self.assertIsNone(paper_any(helper.never_seen()))

    def test_random_templates(self):
        seen = {}
        for number in range(150):
            template = helper.random_template(number, 4)
            told = paper_any(template)
            if told is None:
                seen[None] = seen.get(None, 0) + 1
                continue
            claim, paper = self.taken(told)
            seen[claim[0]] = seen.get(claim[0], 0) + 1
            if claim[0] == "every":
                self.assertEqual(paper, tuple(sorted(helper.pairs_come_to(template))))
            else:
                self.assertEqual(len(paper), len(two_within(helper.expand(template, claim[2]))))
        self.assertGreater(min(seen["every"], seen["breaks"]), 5)


class Trees(Papers):
    def test_never_two(self):
        for node in (helper.peterson(), helper.turns(2), helper.flags(2), helper.onebit(), known_way("filter", 2)):
            for many in (2, 3, 4):
                claim, paper = self.taken(paper_tree(node, many))
                self.assertEqual(claim, ("tree", node, many))
                self.assertEqual(paper, tuple(sorted(helper.distances(node))))

    def test_none_where_the_node_has_two_within(self):
        for node in (((BOX,), (QUICK[:2] + ((("write", 0, 0),),),) * 2), helper.careless(2)):
            for many in (2, 3, 4):
                self.assertIsNone(paper_tree(node, many))


class Refusals(unittest.TestCase):
    def test_ways_then_hands(self):
        for odd in helper.ODD:
            for ask in (lambda: paper_two(odd), lambda: paper_stuck(odd), lambda: paper_kept(odd, odd),
                        lambda: paper_turn(odd, odd, odd), lambda: paper_goings(odd, odd)):
                self.assertRaises(NoWay, ask)
            for way in (helper.peterson(), helper.vast()):
                for ask in (lambda: paper_kept(way, odd), lambda: paper_goings(way, odd),
                            lambda: paper_turn(way, odd, 1), lambda: paper_turn(way, 1, odd),
                            lambda: paper_turn(way, odd, odd)):
                    self.assertRaises(NoHand, ask)
        for hand in (-1, 2, 7):
            for ask in (lambda: paper_kept(helper.peterson(), hand), lambda: paper_goings(helper.peterson(), hand),
                        lambda: paper_turn(helper.peterson(), hand, 0), lambda: paper_turn(helper.peterson(), 0, hand)):
                self.assertRaises(NoHand, ask)

    def test_both_the_same(self):
        for way in (helper.peterson(), helper.vast()):
            self.assertRaises(NoHand, paper_turn, way, 1, 1)
        self.assertRaises(NoWay, paper_turn, None, 1, 1)

    def test_too_many_behind_all_others(self):
        for way in (helper.vast(), helper.just_3001()):
            for ask in (lambda: paper_two(way), lambda: paper_stuck(way), lambda: paper_kept(way, 1),
                        lambda: paper_turn(way, 1, 0), lambda: paper_goings(way, 2)):
                self.assertRaises(TooMany, ask)

    def test_templates(self):
        for odd in helper.ODD + (helper.peterson(),):
            self.assertRaises(NoTemplate, paper_any, odd)
        for template in (helper.pairs_3001(), helper.large_for_3()):
            self.assertRaises(TooMany, paper_any, template)

    def test_trees(self):
        for odd in helper.ODD + (helper.turns(3), helper.dekker(), helper.flags_template()):
            self.assertRaises(NoNode, paper_tree, odd, 2)
            self.assertRaises(NoNode, paper_tree, odd, odd)
        for many in helper.ODD + (0, 1, 5, -2):
            self.assertRaises(NoMany, paper_tree, helper.peterson(), many)
            self.assertRaises(NoMany, paper_tree, helper.vast_node(), many)
        for many in (2, 3, 4):
            self.assertRaises(TooMany, paper_tree, helper.vast_node(), many)

    def test_of_a_tree_the_node_alone_is_gone_through(self):
        node = helper.peterson()
        self.assertIsNone(helper.distances(tree(node, 4), 3000))
        self.assertTrue(holds(*paper_tree(node, 4)))

    def test_nothing_changes(self):
        way, template = helper.dekker(), helper.onebit_template()
        kept = copy.deepcopy((way, template))
        asks = (lambda: paper_two(way), lambda: paper_kept(way, 0), lambda: paper_stuck(way),
                lambda: paper_turn(way, 0, 1), lambda: paper_goings(way, 1), lambda: paper_any(template),
                lambda: paper_tree(helper.peterson(), 3))
        first = [ask() for ask in asks]
        self.assertEqual([ask() for ask in asks], first)
        self.assertEqual((way, template), kept)


if __name__ == "__main__":
    unittest.main()
