"""Point 22: nodes and their trees."""

import copy
import random
import unittest

import helper
from onewithin.errors import NoMany, NoNode
from onewithin.known import known_way
from onewithin.rings import kept_out
from onewithin.safety import two_within
from onewithin.trees import tree
from onewithin.ways import is_way

BOX = ("whole", 2, 0)
LOOK = ("look", 0, (0,), 1)
WRITE = ("write", 0, 1)
PLAIN = (0, 1, (WRITE,))

# For each many the nodes of each hand from its first one up, and which hand of them it is.
PATHS = {
    2: ((("first", 0),), (("first", 1),)),
    3: ((("first", 0), ("top", 0)), (("first", 1), ("top", 0)), (("top", 1),)),
    4: ((("first", 0), ("top", 0)), (("first", 1), ("top", 0)), (("other", 0), ("top", 1)), (("other", 1), ("top", 1))),
}
NODES = {2: ("first",), 3: ("first", "top"), 4: ("first", "other", "top")}


def tree_by_names(node, many):
    """A second telling: each row and box has its node and number for a name, and numbers are looked up by names."""
    boxes = [(name, box) for name in NODES[many] for box in range(len(node[0]))]
    hands = []
    for path in PATHS[many]:
        programs = {name: node[1][hand] for name, hand in path}
        names = [name for name, hand in path]
        order = [(name, at) for name in names for at in range(1, programs[name][1])]
        order += [(name, at) for name in reversed(names)
                  for at in range(programs[name][1], len(programs[name][2]) + 1)]
        rows = []
        for name, at in order:
            row = programs[name][2][at - 1]
            box = boxes.index((name, row[1]))
            if row[0] == "write":
                rows.append(("write", box, row[2]))
                continue
            goal = (name, row[3])
            if name != names[-1] and row[3] == programs[name][1]:
                goal = ("top", 1)
            rows.append(("look", box, row[2], order.index(goal) + 1))
        top = names[-1]
        hands.append((programs[names[0]][0], order.index((top, programs[top][1])) + 1, tuple(rows)))
    return (tuple(node[0][box] for name, box in boxes), tuple(hands))


def random_node(number):
    chance = random.Random(number)
    boxes = []
    for _ in range(chance.randint(1, 4)):
        size = chance.choice((2, 2, 3))
        boxes.append(("whole", size, chance.randrange(size)))
    hands = []
    for _ in (0, 1):
        many = chance.randint(1, 8)
        within = chance.randint(1, many)
        rows = []
        for at in range(1, many + 1):
            box = chance.randrange(len(boxes))
            if at < within and chance.random() < 0.6:
                numbers = tuple(value for value in range(boxes[box][1]) if chance.random() < 0.5)
                rows.append(("look", box, numbers, chance.randint(1, within)))
            else:
                rows.append(("write", box, chance.randrange(boxes[box][1])))
        hands.append((chance.randrange(within), within, tuple(rows)))
    return (tuple(boxes), tuple(hands))


def peterson_rows(mine, his, turn, other, me, ahead=0):
    """The rows of peterson ahead of within, over these boxes, so many rows ahead of them."""
    return (("write", mine, 1), ("write", turn, other), ("look", his, (1,), ahead + 5), ("look", turn, (me,), ahead + 3))


class Trees(unittest.TestCase):
    def test_for_2_it_is_the_node(self):
        for node in (helper.peterson(), helper.turns(2), helper.flags(2), ((BOX,), (PLAIN, PLAIN))):
            self.assertEqual(tree(node, 2), node)

    def test_peterson_for_3(self):
        top = peterson_rows(3, 4, 5, 1, 0, 4) + (("write", 3, 0),)
        self.assertEqual(tree(helper.peterson(), 3), ((BOX,) * 6, (
            (2, 9, peterson_rows(0, 1, 2, 1, 0) + top + (("write", 0, 0),)),
            (2, 9, peterson_rows(1, 0, 2, 0, 1) + top + (("write", 1, 0),)),
            (2, 5, peterson_rows(4, 3, 5, 0, 1) + (("write", 4, 0),)))))

    def test_peterson_for_4(self):
        left = peterson_rows(6, 7, 8, 1, 0, 4) + (("write", 6, 0),)
        right = peterson_rows(7, 6, 8, 0, 1, 4) + (("write", 7, 0),)
        self.assertEqual(tree(helper.peterson(), 4), ((BOX,) * 9, (
            (2, 9, peterson_rows(0, 1, 2, 1, 0) + left + (("write", 0, 0),)),
            (2, 9, peterson_rows(1, 0, 2, 0, 1) + left + (("write", 1, 0),)),
            (2, 9, peterson_rows(3, 4, 5, 1, 0) + right + (("write", 3, 0),)),
            (2, 9, peterson_rows(4, 3, 5, 0, 1) + right + (("write", 4, 0),)))))

    def test_peterson_row_by_row(self):
        self.assertEqual(tree(helper.peterson(), 3)[1][1], (2, 9, (
            ("write", 1, 1), ("write", 2, 0), ("look", 0, (1,), 5), ("look", 2, (1,), 3),
            ("write", 3, 1), ("write", 5, 1), ("look", 4, (1,), 9), ("look", 5, (0,), 7),
            ("write", 3, 0), ("write", 1, 0))))

    def test_hands_unlike_each_other(self):
        boxes = (("whole", 2, 1), ("whole", 3, 2))
        left = (1, 3, (("write", 1, 1), ("look", 0, (0, 1), 3), ("write", 1, 2), ("write", 0, 0)))
        right = (0, 1, (("write", 0, 1),))
        self.assertEqual(tree((boxes, (left, right)), 3), (boxes * 2, (
            (1, 5, (("write", 1, 1), ("look", 0, (0, 1), 3), ("write", 3, 1), ("look", 2, (0, 1), 5), ("write", 3, 2),
                    ("write", 2, 0), ("write", 1, 2), ("write", 0, 0))),
            (0, 3, (("write", 3, 1), ("look", 2, (0, 1), 3), ("write", 3, 2), ("write", 2, 0), ("write", 0, 1))),
            (0, 1, (("write", 2, 1),)))))
        self.assertEqual(tree((boxes, (left, right)), 4)[1][2:], (
            (1, 3, (("write", 3, 1), ("look", 2, (0, 1), 3), ("write", 4, 1), ("write", 3, 2), ("write", 2, 0))),
            (0, 1, (("write", 4, 1), ("write", 2, 1)))))

    def test_the_largest(self):
        rows = (WRITE,) * 6 + (("look", 3, (1,), 8), WRITE)
        node = ((BOX,) * 4, ((7, 8, rows), (0, 8, rows)))
        way = tree(node, 4)
        self.assertTrue(is_way(way))
        self.assertEqual(len(way[0]), 12)
        self.assertEqual([(door, within, len(rows)) for door, within, rows in way[1]],
                         [(7, 15, 16), (0, 15, 16), (7, 15, 16), (0, 15, 16)])

    def test_random_nodes(self):
        for number in range(400):
            node = random_node(number)
            for many in (2, 3, 4):
                way = tree(node, many)
                self.assertTrue(is_way(way))
                self.assertEqual(way, tree_by_names(node, many))


class WhatTreesKeep(unittest.TestCase):
    def test_never_two_within_and_nobody_kept_out(self):
        for node in (helper.peterson(), known_way("filter", 2)):
            way = tree(node, 3)
            self.assertIsNone(two_within(way))
            for hand in range(3):
                self.assertIsNone(kept_out(way, hand))
        for many in (3, 4):
            self.assertIsNone(two_within(tree(helper.turns(2), many)))
            self.assertIsNone(two_within(tree(helper.flags(2), many)))
        self.assertIsNone(two_within(tree(helper.onebit(), 3)))

    def test_random_nodes_without_two_within(self):
        asked = 0
        for number in range(1500):
            node = random_node(number)
            if helper.distances(node, 40) is None or two_within(node) is not None:
                continue
            for many in (3, 4):
                way = tree(node, many)
                if helper.distances(way, 600) is not None:
                    self.assertIsNone(two_within(way), node)
                    asked += 1
        self.assertGreater(asked, 20)


class Nodes(unittest.TestCase):
    def takes(self, *nodes):
        for node in nodes:
            for many in (2, 3, 4):
                self.assertTrue(is_way(tree(node, many)))

    def refuses(self, *things):
        for thing in things:
            for many in (2, 3, 4, 1, None):
                with self.assertRaises(NoNode):
                    tree(thing, many)

    def test_two_hands(self):
        self.takes(((BOX,), (PLAIN, PLAIN)))
        self.refuses(((BOX,), (PLAIN,)), ((BOX,), (PLAIN,) * 3), ((BOX,), (PLAIN,) * 4))

    def test_at_most_four_boxes(self):
        for many in (1, 2, 3, 4):
            self.takes(((BOX,) * many, (PLAIN, PLAIN)))
        self.refuses(((BOX,) * 5, (PLAIN, PLAIN)), ((BOX,) * 12, (PLAIN, PLAIN)))

    def test_all_boxes_are_whole(self):
        idle = (0, 1, (("write", 1, 0),))
        for kind in ("either", "torn"):
            box = (kind, 2, 0)
            self.refuses(((box, BOX), (idle, idle)), ((BOX, BOX, box), (idle, idle)), ((box, BOX), (PLAIN, idle)))
            self.refuses(helper.flags(2, kind))

    def test_at_most_eight_rows(self):
        eight = (0, 8, (LOOK,) * 7 + (WRITE,))
        nine = (0, 9, (LOOK,) * 8 + (WRITE,))
        self.takes(((BOX,), (eight, eight)), ((BOX,), (PLAIN, eight)), ((BOX,), ((0, 1, (WRITE,) * 8), eight)))
        self.refuses(((BOX,), (nine, eight)), ((BOX,), (eight, nine)), ((BOX,), (PLAIN, (0, 1, (WRITE,) * 9))))
        self.refuses(helper.dekker())

    def test_from_within_on_write_rows(self):
        self.takes(((BOX,), ((0, 2, (LOOK, WRITE, WRITE)), PLAIN)))
        within = (0, 2, (LOOK, ("look", 0, (0,), 2), WRITE))
        behind = (0, 2, (LOOK, WRITE, ("look", 0, (0,), 3)))
        for program in (within, behind, (0, 1, (LOOK,))):
            self.assertTrue(is_way(((BOX,), (program, PLAIN))))
            self.refuses(((BOX,), (program, PLAIN)), ((BOX,), (PLAIN, program)))

    def test_of_any_kind(self):
        self.refuses(*helper.ODD)
        self.refuses(helper.flags_template(), list(helper.peterson()), helper.peterson() + ((),), (helper.peterson(),))
        for odd in helper.ODD:
            self.refuses(((BOX,), (PLAIN, odd)), ((BOX,), odd), (odd, (PLAIN, PLAIN)), ((odd,), (PLAIN, PLAIN)))

    def test_many(self):
        for odd in helper.ODD + (0, 1, 5, -2):
            with self.assertRaises(NoMany):
                tree(helper.peterson(), odd)

    def test_nothing_changes(self):
        node = helper.peterson()
        kept = copy.deepcopy(node)
        self.assertEqual(tree(node, 4), tree(node, 4))
        self.assertEqual(node, kept)


if __name__ == "__main__":
    unittest.main()
