"""Point 24: the checker."""

import ast
import copy
import itertools
import pathlib
import random
import subprocess
import sys
import unittest

import helper
import second_checker
import truths
from onewithin.checker import holds
from onewithin.templates import way_for

TOP = pathlib.Path(__file__).resolve().parent.parent
WORDS = ("never two", "two", "not kept out", "kept out", "not stuck", "stuck", "in turn", "out of turn", "goings",
         "as many", "endless", "every", "breaks", "tree")
QUICK = helper.plain_hand(1)
NEVER = (0, 2, (("look", 0, (), 1), ("write", 0, 0)))
BOX = ("whole", 2, 0)


def once():
    """Hand 1 goes in once while hand 0 waits, and never leaves; hand 0 goes through behind it."""
    return ((BOX,), ((0, 2, (("look", 0, (1,), 1), ("write", 0, 1))), (0, 1, (("write", 0, 1), ("look", 0, (), 2)))))


def calm():
    """One hand that comes through whatever is told."""
    return ((("torn", 2, 0),), ((1, 3, (("write", 0, 1), ("look", 0, (1,), 1), ("write", 0, 0))),))


def small_ways():
    """Ways of few standings, by which each claim of a way is so at least once."""
    return [helper.turns(2), helper.flags(2), helper.onebit(), once(), calm(), ((BOX,), (QUICK, QUICK)),
            ((BOX,), (NEVER, QUICK))]


def true_claims(way):
    """All claims of a way that are so, each with a paper; numbers from 0 to 2."""
    far = helper.distances(way)
    claims = [claim for claim in truths.claims_of(way, (0, 1, 2)) if truths.is_so(claim, far)]
    return [(claim, truths.right_paper(claim, far)) for claim in claims]


def template_claims():
    quick = ((BOX,), (0, 1, (("write", 0, 1),)))
    found = [(("every", template), tuple(sorted(helper.pairs_come_to(template))))
             for template in (helper.flags_template(), ((BOX,), (0, 2, (("look", "others", 0, (), 1), ("write", 0, 0)))))]
    for many in (2, 3, 4):
        run = truths.right_paper(("two", helper.expand(quick, many)), helper.distances(helper.expand(quick, many)))
        found.append((("breaks", quick, many), run))
        found.append((("tree", helper.turns(2), many), tuple(sorted(helper.distances(helper.turns(2))))))
    return found


def spoilt(thing):
    """All that is like the thing, but put otherwise at one place."""
    if type(thing) is tuple:
        yield list(thing)
        yield thing + (None,)
        for at in range(len(thing)):
            yield thing[:at] + thing[at + 1:]
            yield thing[:at + 1] + thing[at:]
            yield thing[:at] + thing[at + 1:at + 2] + thing[at:at + 1] + thing[at + 2:]
            for other in spoilt(thing[at]):
                yield thing[:at] + (other,) + thing[at + 1:]
    elif type(thing) is bool:
        yield from (not thing, int(thing), None, ())
    elif type(thing) is int:
        yield from (thing + 1, thing - 1, thing + 2, thing - 2, -thing, thing == 1, str(thing), None, (thing,))
    elif type(thing) is str:
        yield from (thing + " ", thing.upper(), thing[1:], (thing,), None, 0)
    else:
        yield from (0, 1, False, (), (0, 0), "")


def same_kinds(one, other):
    """True where both are the same and of the same kinds all through: (0, True) isn't (0, 1)."""
    if type(one) is not type(other):
        return False
    if type(one) is tuple:
        return len(one) == len(other) and all(same_kinds(*parts) for parts in zip(one, other))
    return one == other


def made_up(chance, deep):
    """A thing of tuples, lists, dicts, texts, whole numbers, truths and None."""
    sort = chance.randrange(9) if deep else chance.randrange(6)
    if sort < 6:
        return (None, True, False, chance.randrange(-2, 7), chance.choice(WORDS + ("write", "look", "whole", "")),
                10 ** 20)[sort]
    parts = [made_up(chance, deep - 1) for _ in range(chance.randrange(5))]
    if sort == 8:
        return {chance.choice(WORDS): part for part in parts}
    return parts if sort == 6 else tuple(parts)


def with_part(thing, chance, part):
    """The same thing with a part put in one place, at any depth."""
    if type(thing) is not tuple or not thing or chance.random() < 0.15:
        return part
    at = chance.randrange(len(thing))
    return thing[:at] + (with_part(thing[at], chance, part),) + thing[at + 1:]


class Taken(unittest.TestCase):
    def takes(self, claim, *papers):
        for paper in papers:
            self.assertIs(holds(claim, paper), True, (claim, paper))
            self.assertTrue(second_checker.takes(claim, paper), (claim, paper))

    def leaves(self, claim, *papers):
        for paper in papers:
            self.assertIs(holds(claim, paper), False, (claim, paper))
            self.assertFalse(second_checker.takes(claim, paper), (claim, paper))


class RightPapers(Taken):
    def test_each_word_is_among_those_tried(self):
        seen = {claim[0] for way in small_ways() for claim, paper in true_claims(way)}
        seen |= {claim[0] for claim, paper in template_claims()}
        self.assertEqual(seen, set(WORDS))

    def test_small_ways(self):
        for way in small_ways():
            for claim, paper in true_claims(way):
                self.takes(claim, paper)

    def test_templates_and_trees(self):
        for claim, paper in template_claims():
            self.takes(claim, paper)

    def test_known_ways(self):
        for way in (helper.peterson(), helper.dekker(), helper.flags(3), helper.turns(3), helper.onebit("torn")):
            for claim, paper in true_claims(way):
                self.assertIs(holds(claim, paper), True, claim)

    def test_random_ways(self):
        for way, far in helper.small_ways(150, 50):
            for claim, paper in true_claims(way):
                self.takes(claim, paper)

    def test_3000_standings(self):
        way = helper.just_3000()
        far = helper.distances(way)
        paper = truths.right_paper(("in turn", way, 3, 0), far)
        self.assertIs(holds(("in turn", way, 3, 0), paper), True)
        self.assertIs(holds(("goings", way, 3, 0), tuple((standing, None) for standing in sorted(far))), True)
        self.assertIs(holds(("never two", way), tuple(sorted(far))), False)

    def test_long_runs(self):
        way = helper.long_run()
        run = max(truths.runs_to(way).values(), key=len)
        self.assertGreater(len(run), 1000)
        self.assertIs(holds(("as many", way, 0, 0), (run, ())), True)
        self.assertIs(holds(("as many", way, 0, 0), (run + ((0, 7),), ())), False)


class MoreThanIsComeTo(Taken):
    """Papers that hold standings that aren't come to, and all behind their steps."""

    def spread(self, way, standings):
        found = dict.fromkeys(standings, True)
        for standing in truths.grown(found):
            found.update((behind, True) for step, behind in helper.steps(way, standing))
        return found

    def any_standing(self, way, chance):
        boxes, hands = way
        spots = tuple(chance.randrange(2 * len(rows) + 1) // 2 * 2 for door, within, rows in hands)
        return spots, tuple(chance.randrange(size) for kind, size, start in boxes)

    def test_covers_and_marked_covers(self):
        chance = random.Random(24)
        seen = []
        for way, far in helper.small_ways(150, 40):
            more = self.spread(way, list(far) + [self.any_standing(way, chance)])
            if len(more) == len(far):
                continue
            for claim in truths.claims_of(way, (1,)):
                if claim[0] in ("never two", "not kept out", "not stuck", "goings") and truths.is_so(claim, more):
                    self.takes(claim, truths.right_paper(claim, more))
                    seen.append(claim[0])
        for word in ("never two", "not kept out", "not stuck", "goings"):
            self.assertGreater(seen.count(word), 10, word)

    def test_one_more_without_its_followers(self):
        chance = random.Random(1)
        asked = 0
        for way, far in helper.small_ways(150, 40):
            extra = self.any_standing(way, chance)
            if all(behind in far or behind == extra for step, behind in helper.steps(way, extra)):
                continue
            asked += 1
            self.leaves(("never two", way), tuple(sorted(set(far) | {extra})))
        self.assertGreater(asked, 20)

    def test_rows_of_either_truth(self):
        chance = random.Random(2)
        seen = {True: 0, False: 0}
        for way, far in helper.small_ways(200, 40):
            if len(way[1]) == 1 or not truths.is_so(("in turn", way, 0, 1), far):
                continue
            for truth in (True, False):
                extra = (self.any_standing(way, chance), truth)
                found = dict.fromkeys(truths.rows_of_truths(way, 0, 1) + (extra,), True)
                many = len(found)
                for standing, was in truths.grown(found):
                    for step, behind in helper.steps(way, standing):
                        since = was or helper.part(way, behind, 1) == "outside"
                        found[behind, helper.waits(way, behind, 0) and since] = True
                paper = tuple(sorted(found))
                if any(was and helper.part(way, standing, 1) == "within" for standing, was in found):
                    self.leaves(("in turn", way, 0, 1), paper)
                else:
                    self.takes(("in turn", way, 0, 1), paper)
                    seen[truth] += len(found) > many
        self.assertGreater(min(seen.values()), 5)

    def test_a_truth_to_which_no_step_leads(self):
        way = helper.peterson()
        paper = truths.rows_of_truths(way, 0, 1)
        # Hand 0 is outside in all of them, so no step leads to the truth True.
        for row in paper:
            standing = row[0]
            if helper.part(way, standing, 0) == "outside":
                more = tuple(sorted(paper + ((standing, True),)))
                if helper.part(way, standing, 1) == "within":
                    self.leaves(("in turn", way, 0, 1), more)
                else:
                    self.takes(("in turn", way, 0, 1), more)
                # But the truth to which steps lead is missing where it is told the other way round alone.
                self.leaves(("in turn", way, 0, 1), tuple(sorted(set(more) - {row})))

    def test_pairs(self):
        template = helper.flags_template()
        come_to = helper.pairs_come_to(template)
        # Both have looked at nobody yet, but hand 0 has written nothing: hand 1 may go in beside it.
        more = {((4, 4), (0, 1))} | come_to
        self.leaves(("every", template), tuple(sorted(more)))
        found = dict.fromkeys(sorted(come_to) + [((0, 0), (1, 1))], True)
        for pair in truths.grown(found):
            found.update((behind, True) for step, behind in helper.pair_steps(template, pair))
        self.assertGreater(len(found), len(come_to) + 1)
        self.takes(("every", template), tuple(sorted(found)))


class PutOtherwise(Taken):
    """Papers and claims put otherwise at one place, all that can be."""

    def check(self, claim, paper):
        """How many are taken and how many aren't, each as by the second telling."""
        many = {True: 0, False: 0}
        for other in spoilt(paper):
            if same_kinds(other, paper):
                continue
            told = holds(claim, other)
            self.assertIs(told, second_checker.takes(claim, other), (claim, other))
            many[told] += 1
        for other in spoilt(claim):
            if same_kinds(other, claim):
                continue
            told = holds(other, paper)
            self.assertIs(told, second_checker.takes(other, paper), (other, paper))
            many[told] += 1
        return many

    def test_ways(self):
        for way in small_ways():
            for claim, paper in true_claims(way):
                many = self.check(claim, paper)
                self.assertGreater(many[False], many[True], claim)

    def test_templates_and_trees(self):
        for claim, paper in template_claims():
            self.check(claim, paper)

    def test_random_ways(self):
        for way, far in helper.small_ways(25, 8):
            for claim, paper in true_claims(way):
                self.check(claim, paper)

    def test_covers(self):
        way = helper.turns(2)
        cover = tuple(sorted(helper.distances(way)))
        claim = ("never two", way)
        self.takes(claim, cover)
        for at in range(len(cover)):
            self.leaves(claim, cover[:at] + cover[at + 1:], cover[:at + 1] + cover[at:])
            self.leaves(claim, cover[:at] + (list(cover[at]),) + cover[at + 1:])
            self.leaves(claim, cover[:at] + (None,) + cover[at + 1:])
        self.leaves(claim, cover[::-1], cover[1:] + cover[:1], list(cover), (), None, dict.fromkeys(cover))
        # The first one is missing, though all followers are there.
        ahead = ((BOX,), ((0, 2, (("write", 0, 1), ("look", 0, (), 2))),))
        cover = tuple(sorted(helper.distances(ahead)))
        self.takes(("never two", ahead), cover)
        self.leaves(("never two", ahead), tuple(standing for standing in cover if standing != ((0,), (0,))))

    def test_covers_with_truths_for_numbers(self):
        way = ((BOX,), (QUICK,))
        cover = (((0,), (0,)), ((2,), (0,)))
        self.takes(("never two", way), cover)
        self.leaves(("never two", way), (((False,), (0,)), ((2,), (0,))), (((0,), (False,)), ((2,), (False,))))
        way = ((("whole", 2, 1),), (QUICK,))
        self.takes(("never two", way), (((0,), (1,)), ((2,), (1,))))
        self.leaves(("never two", way), (((0,), (True,)), ((2,), (True,))))

    def test_marked_covers(self):
        way = helper.peterson()
        for claim in (("not kept out", way, 0), ("not stuck", way), ("goings", way, 0, 1)):
            paper = truths.right_paper(claim, helper.distances(way))
            self.takes(claim, paper)
            for at in range(0, len(paper), 3):
                row = paper[at]
                self.leaves(claim, paper[:at] + paper[at + 1:], paper[:at + 1] + paper[at:])
                for other in (list(row), row[:1], row + (None,), row[0], None):
                    self.leaves(claim, paper[:at] + (other,) + paper[at + 1:])
            self.leaves(claim, paper[::-1], list(paper), dict(paper), (), tuple(standing for standing, mark in paper))

    def test_one_standing_with_two_marks(self):
        way = ((BOX,), ((0, 2, (("write", 0, 0), ("write", 0, 0))),))
        rows = ((((0,), (0,)), None), (((2,), (0,)), 0), (((4,), (0,)), None))
        self.takes(("goings", way, 0, 1), rows)
        self.leaves(("goings", way, 0, 1), rows[:2] + ((((2,), (0,)), 1),) + rows[2:])


class Marks(Taken):
    def setUp(self):
        # Both are on their way by one row and then within; hand 0 may look in vain until hand 1 has been within.
        self.way = ((BOX,), (QUICK, (0, 2, (("write", 0, 0), ("look", 0, (0, 1), 2)))))
        self.far = helper.distances(self.way)

    def paper(self, marks):
        return tuple((standing, marks.get(standing[0])) for standing in sorted(self.far))

    def test_numbers_and_helpers(self):
        claim = ("not kept out", self.way, 1)
        due = [standing[0] for standing in sorted(self.far) if helper.on_its_way(self.way, standing, 1)]
        self.assertEqual(due, [(0, 2), (2, 2)])
        self.takes(claim, self.paper({(0, 2): (0, 1), (2, 2): (0, 1)}))
        # Hand 0 goes in and out, so neither number can be greater; numbers may be great.
        self.takes(claim, self.paper({(0, 2): (10 ** 50, 1), (2, 2): (10 ** 50, 1)}))
        self.leaves(claim, self.paper({(0, 2): (1, 1), (2, 2): (0, 1)}), self.paper({(0, 2): (0, 1), (2, 2): (1, 1)}))
        # A helper that changes where the number stays, one that is outside, one whose step leaves the number.
        self.leaves(claim, self.paper({(0, 2): (0, 1), (2, 2): (0, 0)}), self.paper({(0, 2): (0, 0), (2, 2): (0, 0)}),
                    self.paper({(0, 2): (0, 0), (2, 2): (0, 1)}))
        # None where a mark is due, a mark where None is due.
        self.leaves(claim, self.paper({(0, 2): (0, 1)}), self.paper({(2, 2): (0, 1)}), self.paper({}))
        for spots in ((0, 0), (2, 0), (0, 4), (2, 4)):
            self.leaves(claim, self.paper({(0, 2): (0, 1), (2, 2): (0, 1), spots: (0, 1)}))

    def test_what_is_no_mark(self):
        claim = ("not kept out", self.way, 1)
        for mark in ((-1, 1), (True, 1), (False, 1), (None, 1), ("0", 1), ((0,), 1), (0, True), (0, 2), (0, -1),
                     (0, None), (0, "1"), (0, (1,)), [0, 1], (0,), (0, 1, 1), (), 0, 1, True, "01", {0: 1},
                     (0, [1]), ({}, 1)):
            self.leaves(claim, self.paper({(0, 2): mark, (2, 2): mark}))

    def test_the_helper_has_to_be_a_hand_inside_where_it_helps(self):
        # Hand 0 stays within for ever: it takes steps there, so it helps nobody, but is not outside.
        stays = (0, 1, (("look", 0, (), 1),))
        way = ((BOX,), (stays, (0, 2, (("write", 0, 0), ("look", 0, (0, 1), 2)))))
        cover = sorted(helper.distances(way))
        for mark, taken in (((3, 1), True), ((3, 0), False)):
            paper = tuple((standing, mark if standing[0][1] == 2 else None) for standing in cover)
            (self.takes if taken else self.leaves)(("not kept out", way, 1), paper)

    def test_not_stuck_looks_at_no_coming_within(self):
        way = ((BOX,), ((0, 2, (("write", 0, 0), ("write", 0, 0))),))
        cover = (((0,), (0,)), ((2,), (0,)), ((4,), (0,)))
        for first, second in itertools.product(range(3), repeat=2):
            paper = ((cover[0], None), (cover[1], (first, 0)), (cover[2], (second, 0)))
            self.takes(("not stuck", way), paper)
        # By the step out of within nobody comes within: it is looked at where hand 1 isn't outside.
        way = ((BOX,), (QUICK, QUICK))
        marks = {(0, 0): None, (0, 2): (1, 1), (2, 0): (1, 0), (2, 2): (2, 0)}
        self.takes(("not stuck", way), tuple(((spots, (0,)), marks[spots]) for spots in sorted(marks)))
        marks[2, 2] = (1, 0)
        self.leaves(("not stuck", way), tuple(((spots, (0,)), marks[spots]) for spots in sorted(marks)))
        marks[2, 2] = (2, 0)
        for spots in ((0, 2), (2, 0)):
            self.leaves(("not stuck", way), tuple(((here, (0,)), None if here == spots else marks[here])
                                                  for here in sorted(marks)))
        marks[0, 0] = (0, 0)
        self.leaves(("not stuck", way), tuple(((spots, (0,)), marks[spots]) for spots in sorted(marks)))

    def test_goings(self):
        way = once()
        cover = sorted(helper.distances(way))
        waits = [standing for standing in cover if helper.waits(way, standing, 0)]
        self.assertEqual([spots for spots, values in waits], [(2, 0), (2, 2), (2, 4)])

        def paper(*numbers):
            marks = dict(zip(waits, numbers))
            return tuple((standing, marks.get(standing)) for standing in cover)
        claim = ("goings", way, 0, 1)
        self.takes(claim, paper(1, 0, 0))
        self.takes(("goings", way, 0, 2), paper(1, 0, 0), paper(2, 0, 0), paper(2, 1, 0), paper(2, 1, 1))
        self.takes(("goings", way, 0, 10 ** 40), paper(10 ** 40, 5, 5))
        # Greater than told, not falling as hand 1 comes within, rising, or no number from 0 on.
        self.leaves(claim, paper(2, 0, 0), paper(2, 1, 1), paper(1, 1, 0), paper(0, 0, 0), paper(1, 0, 1))
        self.leaves(("goings", way, 0, 0), paper(1, 0, 0), paper(0, 0, 0), paper(0, -1, -1))
        self.leaves(claim, paper(1, -1, -1), paper(1, 0, -1), paper(True, 0, 0), paper(1, False, False),
                    paper(None, 0, 0), paper(1, None, 0), paper(1, 0, None), paper("1", 0, 0), paper((1, 0), 0, 0))
        # A number where it doesn't wait.
        for at, standing in enumerate(cover):
            if standing not in waits:
                right = paper(1, 0, 0)
                self.leaves(claim, right[:at] + ((standing, 0),) + right[at + 1:])
        for number in (-1, True, None, "1", (1,), [1]):
            self.leaves(("goings", way, 0, number), paper(1, 0, 0), paper(0, 0, 0))

    def test_its_own_going_in_is_no_matter(self):
        way = ((BOX,), ((0, 2, (("write", 0, 0), ("write", 0, 0))),))
        self.takes(("goings", way, 0, 0), ((((0,), (0,)), None), (((2,), (0,)), 0), (((4,), (0,)), None)))


class Runs(Taken):
    def test_two(self):
        way = ((BOX,), (QUICK, QUICK, NEVER))
        claim = ("two", way)
        self.takes(claim, ((0, None), (1, None)), ((1, None), (0, None)), ((2, None), (0, None), (2, 0), (1, None)))
        self.leaves(claim, (), ((0, None),), ((0, None), (2, None)), ((0, None), (1, None), (0, 0)))
        # It goes on too far, or by steps that can't be taken.
        self.leaves(claim, ((0, None), (1, None), (1, 0), (0, 0)), ((0, None), (1, 0)), ((0, 0), (1, None)),
                    ((0, None), (3, None)), ((0, None), (-1, None)), ((0, None), (True, None)),
                    ((0, None), [1, None]), [(0, None), (1, None)], ((0, None), (1, None), None), ((0, None), (1,)),
                    ((0, None), (1, None, None)), ((0, None), (1, False)), "", None, 0, {}, True)
        self.takes(("two", way), ((0, None), (1, None), (0, 0), (0, None)))
        self.leaves(("two", way), ((0, None), (1, None), (0, False), (0, None)))
        self.leaves(("two", helper.turns(2)), ((0, None), (1, None)))

    def test_three_within(self):
        way = ((BOX,), (QUICK,) * 3)
        self.takes(("two", way), ((0, None), (1, None), (2, None)))

    def test_kept_out(self):
        way = ((BOX,), (NEVER, QUICK))
        claim = ("kept out", way, 0)
        self.takes(claim, (((0, None),), ((0, 0),)), (((0, None),), ((0, 0), (1, None), (1, 0))),
                   (((0, None), (1, None)), ((1, 0), (0, 0), (1, None))))
        # No step, no way back, not fair, elsewhere, not on its way all along.
        self.leaves(claim, (((0, None),), ()), (((0, None),), ((1, None),)), (((0, None),), ((0, 0), (1, None))),
                    (((0, None), (1, None)), ((0, 0),)), (((0, None),), ((1, None), (1, 0))), ((), ((0, 0),)),
                    ((), ((1, None), (1, 0))), ((), ()))
        self.leaves(claim, [((0, None),), ((0, 0),)], (((0, None),), [(0, 0)]), ([(0, None)], ((0, 0),)),
                    (((0, None),), ((0, 0),), ()), (((0, None),),), (((0, None),), ((0, False),)), (None, None),
                    ((0, None), (0, 0)), (), None, {})
        self.leaves(("kept out", way, 1), (((0, None),), ((0, 0),)))
        self.leaves(("stuck", way, 0), (((0, None),), ((0, 0),)))

    def test_on_its_way_all_along(self):
        # Hand 0 comes within, leaves and is on its way again; at both ends of the ring it is on its way.
        way = ((BOX,), ((0, 2, (("write", 0, 0), ("write", 0, 0))),))
        ring = ((0, None), (0, None), (0, None))
        self.leaves(("kept out", way, 0), (((0, None),), ring))
        self.leaves(("stuck", way), (((0, None),), ring))

    def test_stuck(self):
        way = ((BOX,), (NEVER, QUICK, NEVER))
        claim = ("stuck", way)
        self.takes(claim, (((0, None),), ((0, 0),)), (((0, None), (2, None)), ((2, 0), (0, 0))),
                   (((2, None),), ((2, 0), (2, 0))))
        # Hand 1 comes within; it stands within without a step; no step at all; not back.
        self.leaves(claim, (((0, None),), ((0, 0), (1, None), (1, 0))), (((0, None), (1, None)), ((0, 0),)),
                    (((0, None),), ()), ((), ((0, None),)), (((0, None),), ((2, None), (0, 0))),
                    (((0, None), (2, None)), ((0, 0),)))
        # Staying within is no coming within.
        stays = ((BOX,), ((0, 1, (("look", 0, (), 1),)),))
        self.takes(("stuck", stays), (((0, None),), ((0, 0),)))
        self.leaves(("kept out", stays, 0), (((0, None),), ((0, 0),)))

    def test_not_all_outside_all_along(self):
        # Hand 0 is round again without coming within: there is no such program, but by all outside it goes.
        way = ((BOX,), (QUICK,))
        self.leaves(("stuck", way), ((), ((0, None), (0, 0))), (((0, None),), ((0, 0), (0, None))))

    def test_out_of_turn(self):
        way = ((BOX,), (NEVER, QUICK, NEVER))
        claim = ("out of turn", way, 0, 1)
        self.takes(claim, ((0, None), (1, None)), ((2, None), (0, None), (0, 0), (1, None), (2, 0)),
                   ((1, None), (0, None), (1, 0), (1, None)))
        # The other was within already as the hand began to wait, isn't within, or the hand doesn't wait.
        self.leaves(claim, ((1, None), (0, None)), ((0, None),), ((1, None),), (), ((0, None), (1, None), (1, 0)),
                    [(0, None), (1, None)], ((0, None), (1, 0)), None)
        self.leaves(("out of turn", way, 1, 0), ((0, None), (1, None)), ((1, None), (0, None)))
        for hand, other in ((0, 0), (1, 1), (0, 3), (3, 0), (0, True), (False, 1), (0, None), (-1, 1), (0, -2)):
            self.leaves(("out of turn", way, hand, other), ((0, None), (1, None)), ((1, None), (0, None)))
            self.leaves(("in turn", way, hand, other), truths.rows_of_truths(way, 0, 2))
        self.takes(("in turn", way, 0, 2), truths.rows_of_truths(way, 0, 2))

    def test_it_waits_all_along(self):
        # Hand 0 has been outside its waiting, in its doorway, since hand 1 was outside.
        hand = (1, 3, (("look", 0, (0, 1), 1), ("look", 0, (), 1), ("write", 0, 0)))
        other = (0, 2, (("look", 0, (0, 1), 1), ("write", 0, 0)))
        way = ((BOX,), (hand, other))
        claim = ("out of turn", way, 0, 1)
        wait = ((0, None), (0, 0))
        self.takes(claim, wait + ((1, None), (1, 0)))
        self.leaves(claim, wait + ((1, None), (0, 0), (0, 0), (1, 0)), ((1, None),) + wait + ((1, 0),),
                    ((0, None), (1, None), (1, 0)))

    def test_as_many(self):
        way = ((BOX,), (NEVER, QUICK, QUICK))
        wait = ((0, None),)
        both = ((1, None), (2, None))
        for number in (0, 1, 2):
            self.takes(("as many", way, 0, number), (wait, both), (wait, both + ((0, 0), (1, 0), (1, None))))
        self.leaves(("as many", way, 0, 3), (wait, both), (both + wait, ()))
        self.takes(("as many", way, 0, 3), (wait, both + ((2, 0), (2, None))))
        self.takes(("as many", way, 0, 0), ((), ()), (both, ()), (wait, ()))
        # It doesn't wait at an end of a step, or what it tells isn't on.
        self.leaves(("as many", way, 0, 0), ((), wait), ((), ((1, None),)), (wait, None), (None, ()), ((),), (), ((), (), ()))
        self.leaves(("as many", way, 0, 1), ((), wait + both), (wait + both, ()), (both + wait, ((0, 0),)),
                    (wait, [(1, None)]), [wait, both], (list(wait), both), (wait, ((1, 0),)), (wait, ((1, None), (3, 0))))
        for number in (-1, True, False, None, "1", (1,)):
            self.leaves(("as many", way, 0, number), (wait, both))
        # Its own coming within is none ahead of it.
        slow = ((BOX,), ((0, 2, (("write", 0, 0), ("write", 0, 0))),))
        self.leaves(("as many", slow, 0, 1), (wait, ((0, None),)))
        self.leaves(("as many", slow, 0, 0), (wait, ((0, None),)))

    def test_endless(self):
        way = ((BOX,), (NEVER, QUICK, QUICK))
        wait = ((0, None),)
        claim = ("endless", way, 0)
        # The ring needn't be fair.
        self.takes(claim, (wait, ((1, None), (1, 0))), (wait, ((0, 0), (1, None), (1, 0))),
                   (wait + ((1, None), (2, None)), ((1, 0), (1, None))))
        self.leaves(claim, (wait, ()), (wait, ((0, 0),)), (wait, ((1, None),)), ((), ((1, None), (1, 0))),
                    (wait, ((1, None), (1, 0), (2, None))), (wait, [(1, None), (1, 0)]), wait, None, (wait,))
        self.leaves(("endless", way, 1), (wait, ((1, None), (1, 0))))
        self.leaves(("endless", way, 0, 1), (wait, ((1, None), (1, 0))))


class Claims(Taken):
    def test_other_words_and_numbers_of_parts(self):
        for claim, paper in [row for way in small_ways()[:4] for row in true_claims(way)] + template_claims():
            self.leaves(list(claim), paper)
            self.leaves(claim[:-1], paper)
            self.leaves(claim + (0,), paper)
            self.leaves(claim + (None,), paper)
            self.leaves(claim + claim[-1:], paper)
            self.leaves(claim[1:], paper)
            self.leaves(claim[:1], paper)
            self.leaves((), paper)
            for word in (claim[0].upper(), claim[0] + " ", " " + claim[0], claim[0].replace(" ", "_") + "_", "", "open",
                         "never", None, 0, True, (claim[0],), [claim[0]], {claim[0]: 1}):
                self.leaves((word,) + claim[1:], paper)

    def test_another_word_with_the_same_parts(self):
        # Of the words with as many parts just those are taken of which it is a paper by the second telling.
        for claim, paper in [row for way in small_ways() for row in true_claims(way)] + template_claims():
            for word in WORDS:
                other = (word,) + claim[1:]
                self.assertIs(holds(other, paper), second_checker.takes(other, paper), (other, paper))

    def test_parts_that_are_none(self):
        claims = [row for way in small_ways()[:4] for row in true_claims(way)] + template_claims()
        for claim, paper in claims:
            for at in range(1, len(claim)):
                for odd in helper.ODD:
                    if claim[0] not in ("goings", "as many") or type(odd) is not int:
                        self.assertIs(holds(claim[:at] + (odd,) + claim[at + 1:], paper), False)

    def test_hands(self):
        way = ((BOX,), (NEVER, NEVER))
        for hand in (0, 1):
            self.takes(("kept out", way, hand), (((0, None), (1, None)), ((0, 0), (1, 0))))
        for hand in (-1, 2, 3, True, False, None, "0", (0,), [0]):
            self.leaves(("kept out", way, hand), (((0, None), (1, None)), ((0, 0), (1, 0))))

    def test_ways_templates_and_nodes_are_told_apart(self):
        peterson = helper.peterson()
        cover = tuple(sorted(helper.distances(peterson)))
        self.takes(("never two", peterson), cover)
        self.takes(("tree", peterson, 4), cover)
        self.leaves(("every", peterson), cover)
        pairs = tuple(sorted(helper.pairs_come_to(helper.flags_template())))
        self.leaves(("never two", helper.flags_template()), pairs)
        # A way of three hands, and one with a look behind within, is no node.
        for way in (helper.turns(3), ((BOX,), ((0, 1, (("look", 0, (), 1),)), NEVER)), helper.dekker()):
            cover = tuple(sorted(helper.distances(way)))
            self.takes(("never two", way), cover)
            for many in (2, 3, 4):
                self.leaves(("tree", way, many), cover)

    def test_manys(self):
        quick = ((BOX,), (0, 1, (("write", 0, 1),)))
        run = ((0, None), (1, None))
        for many in (2, 3, 4):
            self.takes(("breaks", quick, many), run)
        for many in (0, 1, 5, -2, True, None, "2", (2,), [2]):
            self.leaves(("breaks", quick, many), run)
        self.leaves(("breaks", quick, 2), ((0, None), (2, None)))
        self.takes(("breaks", quick, 3), ((0, None), (2, None)))
        self.leaves(("breaks", helper.flags_template(), 3), run, ())
        cover = tuple(sorted(helper.distances(helper.flags(2))))
        for many in (2, 3, 4):
            self.takes(("tree", helper.flags(2), many), cover)
        for many in (0, 1, 5, -2, True, None, "2", (2,), [2]):
            self.leaves(("tree", helper.flags(2), many), cover)
        node = ((BOX,), (QUICK, (0, 1, (("write", 0, 1),))))
        self.leaves(("tree", node, 2), tuple(sorted(helper.distances(node))))

    def test_covers_of_pairs(self):
        template = helper.flags_template()
        claim = ("every", template)
        pairs = tuple(sorted(helper.pairs_come_to(template)))
        self.takes(claim, pairs)
        for at in range(len(pairs)):
            self.leaves(claim, pairs[:at] + pairs[at + 1:], pairs[:at + 1] + pairs[at:],
                        pairs[:at] + (list(pairs[at]),) + pairs[at + 1:])
        self.leaves(claim, pairs[::-1], list(pairs), (), None, "every", 0)
        for template in (helper.flags_template("torn"), helper.onebit_template("either")):
            self.leaves(("every", template), tuple(sorted(helper.pairs_come_to(template))))
        # What is come to by a way for 2 alone is no cover of pairs: a third one may send them back.
        template = helper.onebit_template()
        self.leaves(("every", template), tuple(sorted(helper.distances(way_for(template, 2)))))


class OfAnyKind(unittest.TestCase):
    def setUp(self):
        self.claims = [row for way in small_ways() for row in true_claims(way)] + template_claims()

    def test_odd_things(self):
        for odd in helper.ODD:
            for other in helper.ODD:
                self.assertIs(holds(odd, other), False)
            for claim, paper in self.claims:
                self.assertIs(holds(odd, paper), False)
                # Two runs of no step are a paper of as many as 0.
                self.assertIs(holds(claim, odd), odd == ((), ()) and claim[0] == "as many" and claim[3] == 0)

    def test_odd_things_in_any_part(self):
        for claim, paper in self.claims[::5]:
            for odd in helper.ODD:
                for at in range(len(paper)):
                    self.assertIs(holds(claim, paper[:at] + (odd,) + paper[at + 1:]),
                                  second_checker.takes(claim, paper[:at] + (odd,) + paper[at + 1:]))

    def test_made_up_things(self):
        chance = random.Random(11)
        for _ in range(4000):
            claim, paper = chance.choice(self.claims)
            self.assertIs(holds(made_up(chance, 4), paper), False)
            self.assertIs(holds(made_up(chance, 4), made_up(chance, 4)), False)
            for other, told in ((claim, made_up(chance, 4)), (claim, with_part(paper, chance, made_up(chance, 3))),
                                (with_part(claim, chance, made_up(chance, 3)), paper)):
                self.assertIs(holds(other, told), second_checker.takes(other, told), (other, told))

    def test_ten_deep(self):
        thing = ()
        for _ in range(10):
            thing = (thing, [thing], {"a": thing})[0:1] + (thing,)
        for claim, paper in self.claims:
            self.assertIs(holds(thing, paper), False)
            self.assertIs(holds(claim, thing), False)
            self.assertIs(holds(claim[:1] + (thing,) * (len(claim) - 1), thing), False)


class WhatIsTakenIsSo(unittest.TestCase):
    def test_every_claim_with_every_paper(self):
        # Papers of other claims, spoilt ones among them, and of another way of the same hands and boxes.
        chance = random.Random(3)
        asked = {True: 0, False: 0}
        for way, far in helper.small_ways(60, 12):
            papers = [paper for claim, paper in true_claims(way)]
            for paper in list(papers):
                others = list(spoilt(paper))
                papers += chance.sample(others, min(len(others), 12))
            for claim in truths.claims_of(way, (0, 1, 2)):
                so = truths.is_so(claim, far)
                for paper in papers:
                    if holds(claim, paper):
                        self.assertTrue(so, (claim, paper))
                asked[so] += 1
        self.assertGreater(min(asked.values()), 200)

    def test_templates(self):
        # Whatever run or cover: flags and onebit never break, by whichever kind they do isn't every.
        for kind in helper.KINDS:
            for template in (helper.flags_template(kind), helper.onebit_template(kind)):
                pairs = tuple(sorted(helper.pairs_come_to(template)))
                self.assertIs(holds(("every", template), pairs), kind == "whole")
                runs = truths.runs_to(helper.expand(template, 2)).values()
                self.assertIs(any(holds(("breaks", template, 2), run) for run in runs), kind != "whole")


class Itself(unittest.TestCase):
    def test_imports(self):
        tree = ast.parse((TOP / "onewithin" / "checker.py").read_text())
        sources = set()
        for node in ast.walk(tree):
            self.assertNotIsInstance(node, ast.Import)
            if isinstance(node, ast.ImportFrom):
                sources.add(node.module)
        self.assertLessEqual(sources, {"onewithin." + name for name in (
            "errors", "plain", "ways", "standings", "runs", "templates", "pairs")})

    def test_what_comes_with_it(self):
        # Nor by way of another module.
        rows = "import sys; import onewithin.checker; print(*sorted(sys.modules))"
        told = subprocess.run([sys.executable, "-c", rows], cwd=TOP, capture_output=True, text=True, check=True)
        for name in ("tables", "safety", "rings", "turns", "kinds", "alone", "anymany", "trees", "known", "papers"):
            self.assertNotIn("onewithin." + name, told.stdout.split())

    def test_nothing_changes(self):
        for claim, paper in true_claims(helper.peterson()):
            kept = copy.deepcopy((claim, paper))
            first = holds(claim, paper)
            holds(claim, list(paper))
            holds(None, paper)
            self.assertIs(holds(claim, paper), first)
            self.assertEqual((claim, paper), kept)
        things = [["two", helper.peterson()], {"a": [1]}, [(0, None)]]
        kept = copy.deepcopy(things)
        for claim in things:
            for paper in things:
                holds(claim, paper)
        self.assertEqual(things, kept)


if __name__ == "__main__":
    unittest.main()
