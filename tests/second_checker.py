"""A second telling of point 24: each claim and paper is asked for by the document's words, one need behind the other."""

import helper
from onewithin.errors import NoNode, NoPair
from onewithin.pairs import pair_steps
from onewithin.standings import is_standing
from onewithin.templates import is_template
from onewithin.trees import tree
from onewithin.ways import is_way


class Needed(Exception):
    pass


def need(truth):
    if not truth:
        raise Needed


def takes(claim, paper):
    try:
        need(type(claim) is tuple and len(claim) > 0 and type(claim[0]) is str and claim[0] in ASKED)
        ask, many = ASKED[claim[0]]
        need(len(claim) == many)
        ask(paper, *claim[1:])
    except Needed:
        return False
    return True


def need_whole(thing, low, high=None):
    need(type(thing) is int and thing >= low and (high is None or thing <= high))


def need_pair(thing):
    need(type(thing) is tuple and len(thing) == 2)


def need_hand(way, hand):
    need(is_way(way))
    need_whole(hand, 0, len(way[1]) - 1)


def need_run(way, standing, run):
    """The standings along a run."""
    need(type(run) is tuple)
    along = [standing]
    for step in run:
        need_pair(step)
        hand, told = step
        need_hand(way, hand)
        if told is not None:
            need_whole(told, 0, 4)
        along.append(helper.take(way, along[-1], hand, told))
        need(along[-1] is not None)
    return along


def need_two_runs(way, paper):
    need(is_way(way))
    need_pair(paper)
    ahead = need_run(way, helper.start(way), paper[0])
    return need_run(way, ahead[-1], paper[1])


def need_ring(way, paper):
    along = need_two_runs(way, paper)
    need(len(along) >= 2 and along[0] == along[-1])
    return along


def need_fair_ring(way, paper):
    along = need_ring(way, paper)
    for hand in range(len(way[1])):
        need(any(who == hand for who, told in paper[1]) or all(spots[hand] == 0 for spots, values in along))
    return along


def need_rising(paper, start):
    """What is asked of a tuple of standings, pairs or rows, each known to be one."""
    need(list(paper) == sorted(set(paper)))
    need(start in paper)


def need_cover(way, standings):
    need(is_way(way))
    need(type(standings) is tuple)
    for standing in standings:
        need(is_standing(way, standing))
    need_rising(standings, helper.start(way))
    for standing in standings:
        for step, behind in helper.steps(way, standing):
            need(behind in standings)


def need_marks(way, paper):
    need(type(paper) is tuple)
    for row in paper:
        need_pair(row)
    need_cover(way, tuple(standing for standing, mark in paper))
    return dict(paper)


def two(paper, way):
    need(is_way(way))
    need(helper.within_count(way, need_run(way, helper.start(way), paper)[-1]) >= 2)


def never_two(paper, way):
    need_cover(way, paper)
    for standing in paper:
        need(helper.within_count(way, standing) <= 1)


def kept_out(paper, way, hand):
    need_hand(way, hand)
    for standing in need_fair_ring(way, paper):
        need(helper.on_its_way(way, standing, hand))


def stuck(paper, way):
    along = need_fair_ring(way, paper)
    for standing in along:
        need(any(standing[0]))
    for (hand, told), ahead, behind in zip(paper[1], along, along[1:]):
        need(not helper.comes_in(way, ahead, behind, hand))


def need_helpers(way, paper, is_due, is_looked_at):
    marks = need_marks(way, paper)
    for standing, mark in marks.items():
        if not is_due(standing):
            need(mark is None)
            continue
        need_pair(mark)
        need_whole(mark[0], 0)
        need_hand(way, mark[1])
        need(helper.part(way, standing, mark[1]) != "outside")
    for standing in marks:
        for (hand, told), behind in helper.steps(way, standing):
            if is_due(standing) and is_due(behind) and is_looked_at(standing, hand, behind):
                (number, who), (number_behind, who_behind) = marks[standing], marks[behind]
                need(number_behind <= number)
                if hand == who:
                    need(number_behind < number)
                elif number_behind == number:
                    need(who_behind == who)


def not_kept_out(paper, way, hand):
    need_hand(way, hand)
    need_helpers(way, paper, lambda standing: helper.on_its_way(way, standing, hand), lambda *step: True)


def not_stuck(paper, way):
    need_helpers(way, paper, lambda standing: any(standing[0]),
                 lambda ahead, hand, behind: not helper.comes_in(way, ahead, behind, hand))


def need_two_hands(way, hand, other):
    need_hand(way, hand)
    need_hand(way, other)
    need(hand != other)


def in_turn(paper, way, hand, other):
    need_two_hands(way, hand, other)
    need(type(paper) is tuple)
    for row in paper:
        need_pair(row)
        need(is_standing(way, row[0]) and type(row[1]) is bool)
    need_rising(paper, (helper.start(way), False))
    for standing, truth in paper:
        need(not truth or helper.part(way, standing, other) != "within")
        for step, behind in helper.steps(way, standing):
            since = truth or helper.part(way, behind, other) == "outside"
            need((behind, helper.waits(way, behind, hand) and since) in paper)


def out_of_turn(paper, way, hand, other):
    need_two_hands(way, hand, other)
    along = need_run(way, helper.start(way), paper)
    need(helper.part(way, along[-1], other) == "within")
    while True:
        need(along and helper.waits(way, along[-1], hand))
        if helper.part(way, along.pop(), other) == "outside":
            return


def goings(paper, way, hand, number):
    need_hand(way, hand)
    need_whole(number, 0)
    marks = need_marks(way, paper)
    for standing, mark in marks.items():
        if helper.waits(way, standing, hand):
            need_whole(mark, 0, number)
        else:
            need(mark is None)
    for standing, mark in marks.items():
        for (who, told), behind in helper.steps(way, standing):
            if mark is not None and marks[behind] is not None:
                need(marks[behind] <= mark)
                need(who == hand or not helper.comes_in(way, standing, behind, who) or marks[behind] < mark)


def need_goings(way, hand, along, run, number):
    if run:
        for standing in along:
            need(helper.waits(way, standing, hand))
    need(number <= sum(who != hand and helper.comes_in(way, ahead, behind, who)
                       for (who, told), ahead, behind in zip(run, along, along[1:])))


def as_many(paper, way, hand, number):
    need_hand(way, hand)
    need_whole(number, 0)
    need_goings(way, hand, need_two_runs(way, paper), paper[1], number)


def endless(paper, way, hand):
    need_hand(way, hand)
    need_goings(way, hand, need_ring(way, paper), paper[1], 1)


def every(paper, template):
    need(is_template(template))
    need(type(paper) is tuple)
    for pair in paper:
        try:
            pair_steps(template, pair)
        except NoPair:
            need(False)
    need_rising(paper, helper.pair_start(template))
    for pair in paper:
        need([spot // 2 for spot in pair[0]] != [template[1][1]] * 2)
        for step, behind in helper.pair_steps(template, pair):
            need(behind in paper)


def breaks(paper, template, many):
    need(is_template(template))
    need_whole(many, 1, 4)
    two(paper, helper.expand(template, many))


def of_tree(paper, node, many):
    try:
        tree(node, 2)
    except NoNode:
        need(False)
    need_whole(many, 2, 4)
    never_two(paper, node)


# For each word what is asked, and how many parts the claim has.
ASKED = {
    "never two": (never_two, 2),
    "two": (two, 2),
    "not kept out": (not_kept_out, 3),
    "kept out": (kept_out, 3),
    "not stuck": (not_stuck, 2),
    "stuck": (stuck, 2),
    "in turn": (in_turn, 4),
    "out of turn": (out_of_turn, 4),
    "goings": (goings, 4),
    "as many": (as_many, 4),
    "endless": (endless, 3),
    "every": (every, 2),
    "breaks": (breaks, 3),
    "tree": (of_tree, 3),
}
