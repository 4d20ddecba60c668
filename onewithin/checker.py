"""The checker: it takes a claim with its paper, or not.

It trusts nobody, so it imports nothing by which papers are found: what is wrong there can't be wrong here, too.
"""

from onewithin.pairs import are_both_within, first_pair_of, is_pair, pair_moves
from onewithin.plain import is_from_to, is_tuple, is_whole, is_word
from onewithin.runs import behind_step
from onewithin.standings import are_all_outside, comes_within, first_of, how_many_within, is_on_its_way
from onewithin.standings import is_standing_of, moves, part_in
from onewithin.templates import is_template, way_for
from onewithin.ways import is_node, is_way


def holds(claim, paper):
    """True where the claim, of any kind, is one and the paper, of any kind, is one of it."""
    if not isinstance(claim, tuple) or len(claim) == 0 or not is_word(claim[0], tuple(CLAIMS)):
        return False
    kinds, shows = CLAIMS[claim[0]]
    parts = claim[1:]
    return are_parts(parts, kinds) and shows(paper, *parts)


def are_parts(parts, kinds):
    """True where the parts behind the word of a claim are of these kinds."""
    if len(parts) != len(kinds):
        return False
    for kind, part in zip(kinds, parts):
        # One behind the other: a hand is one of the way ahead of it, which has to be a way then.
        if not is_part(kind, part, parts):
            return False
    return True


def is_part(kind, part, parts):
    if kind == "way":
        return is_way(part)
    if kind == "template":
        return is_template(part)
    if kind == "node":
        return is_node(part)
    if kind == "hand":
        return is_from_to(part, 0, len(parts[0][1]) - 1)
    if kind == "other":
        return is_from_to(part, 0, len(parts[0][1]) - 1) and part != parts[1]
    if kind == "number":
        return is_whole(part) and part >= 0
    # A many: of one hand alone no way breaks, and there is no tree.
    return is_from_to(part, 2, 4)


def is_cover(things, is_thing, first, moves_from):
    """True where the things are a rising tuple, the first one among them, with each all that are behind its steps."""
    if not isinstance(things, tuple) or not all([is_thing(thing) for thing in things]):
        return False
    if not all([ahead < behind for ahead, behind in zip(things, things[1:])]):
        return False
    among = {thing: True for thing in things}
    return first in among and all([behind in among for thing in things for step, behind in moves_from(thing)])


def is_cover_of(things, way):
    return is_cover(
        things,
        lambda thing: is_standing_of(way, thing),
        first_of(way),
        lambda standing: moves(way, standing),
    )


def shows_never_two(paper, way):
    return is_cover_of(paper, way) and all([how_many_within(way, standing) < 2 for standing in paper])


def shows_two(paper, way):
    along = walk(way, first_of(way), paper)
    return along is not None and how_many_within(way, along[-1]) >= 2


def shows_not_kept(paper, way, hand):
    return is_marked(
        paper,
        way,
        lambda standing: is_on_its_way(way, standing, hand),
        is_helped,
        lambda standing, step, behind, mark, mark_behind: is_kept_or_falls(step, mark, mark_behind),
    )


def shows_kept(paper, way, hand):
    along = fair_ring(way, paper)
    return along is not None and all([is_on_its_way(way, standing, hand) for standing in along])


def shows_not_stuck(paper, way):
    return is_marked(
        paper,
        way,
        lambda standing: not are_all_outside(standing),
        is_helped,
        lambda standing, step, behind, mark, mark_behind:
        comes_within(way, standing, step, behind) or is_kept_or_falls(step, mark, mark_behind),
    )


def shows_stuck(paper, way):
    along = fair_ring(way, paper)
    if along is None or any([are_all_outside(standing) for standing in along]):
        return False
    return not any([comes_within(way, along[at], step, along[at + 1]) for at, step in enumerate(paper[1])])


def shows_in_turn(paper, way, hand, other):
    if not is_cover(
        paper,
        lambda thing: is_tuple(thing, 2, 2) and is_standing_of(way, thing[0]) and isinstance(thing[1], bool),
        (first_of(way), False),
        lambda row: rows_behind(way, row, hand, other),
    ):
        return False
    return not any([truth and part_in(way, standing, other) == "within" for standing, truth in paper])


def rows_behind(way, row, hand, other):
    """What is behind the steps of a (standing, truth), as a list of (step, such a row)."""
    standing, truth = row
    return [(step, (behind, has_waited(way, behind, hand, other, truth))) for step, behind in moves(way, standing)]


def has_waited(way, standing, hand, other, truth):
    """True where the hand waits, and has since the other was outside: truth tells this of the standing ahead."""
    return part_in(way, standing, hand) == "waiting" and (truth or part_in(way, standing, other) == "outside")


def shows_out_of_turn(paper, way, hand, other):
    along = walk(way, first_of(way), paper)
    if along is None:
        return False
    truth = False
    for standing in along:
        truth = has_waited(way, standing, hand, other, truth)
    return truth and part_in(way, along[-1], other) == "within"


def shows_goings(paper, way, hand, number):
    return is_marked(
        paper,
        way,
        lambda standing: part_in(way, standing, hand) == "waiting",
        lambda standing, mark: is_from_to(mark, 0, number),
        lambda standing, step, behind, mark, mark_behind:
        mark_behind + int(is_going(way, hand, standing, step, behind)) <= mark,
    )


def shows_as_many(paper, way, hand, number):
    along = walk_on(way, paper)
    if along is None or len(along) > 1 and not waits_along(way, hand, along):
        return False
    return goings_along(way, hand, paper[1], along) >= number


def shows_endless(paper, way, hand):
    along = ring_of(way, paper)
    return along is not None and waits_along(way, hand, along) and goings_along(way, hand, paper[1], along) > 0


def is_going(way, hand, standing, step, behind):
    """True where by this step another hand comes within."""
    return step[0] != hand and comes_within(way, standing, step, behind)


def waits_along(way, hand, along):
    return all([part_in(way, standing, hand) == "waiting" for standing in along])


def goings_along(way, hand, run, along):
    """By how many steps of a run, whose standings are told, another hand comes within."""
    return len([at for at, step in enumerate(run) if is_going(way, hand, along[at], step, along[at + 1])])


def shows_every(paper, template):
    if not is_cover(
        paper,
        lambda thing: is_pair(template, thing),
        first_pair_of(template),
        lambda pair: pair_moves(template, pair),
    ):
        return False
    return not any([are_both_within(template, pair) for pair in paper])


def shows_breaks(paper, template, many):
    return shows_two(paper, way_for(template, many))


def shows_tree(paper, node, many):
    return shows_never_two(paper, node)


def is_marked(paper, way, is_due, is_mark, lets):
    """True where the paper is a marked cover whose marks are such, None just where none is due.

    lets tells of each step between two with marks whether these go with it.
    """
    if not isinstance(paper, tuple) or not all([is_tuple(row, 2, 2) for row in paper]):
        return False
    if not is_cover_of(tuple([standing for standing, mark in paper]), way):
        return False
    for standing, mark in paper:
        if not (is_mark(standing, mark) if is_due(standing) else mark is None):
            return False
    marks = {standing: mark for standing, mark in paper if mark is not None}
    for standing in marks:
        for step, behind in moves(way, standing):
            if behind in marks and not lets(standing, step, behind, marks[standing], marks[behind]):
                return False
    return True


def is_helped(standing, mark):
    """True where the mark is (number, helper), the helper a hand that isn't outside in the standing."""
    if not is_tuple(mark, 2, 2):
        return False
    number, helper = mark
    spots = standing[0]
    return is_whole(number) and number >= 0 and is_from_to(helper, 0, len(spots) - 1) and spots[helper] != 0


def is_kept_or_falls(step, mark, mark_behind):
    """True where the number falls by the step or, where it isn't one of the helper, number and helper stay."""
    return mark_behind[0] < mark[0] or mark_behind == mark and step[0] != mark[1]


def walk(way, start, run):
    """A list of the standings along a run, both ends with them; None where the thing, of any kind, is none."""
    if not isinstance(run, tuple):
        return None
    along = [start]
    for step in run:
        behind = behind_step(way, along[-1], step)
        if behind is None:
            return None
        along.append(behind)
    return along


def walk_on(way, paper):
    """The standings along the second of two runs, from where the first one leads; None where they are none."""
    if not is_tuple(paper, 2, 2):
        return None
    run, on = paper
    ahead = walk(way, first_of(way), run)
    return None if ahead is None else walk(way, ahead[-1], on)


def ring_of(way, paper):
    """The standings along the ring of (run, ring), None where there is none."""
    along = walk_on(way, paper)
    if along is None or len(along) == 1 or along[-1] != along[0]:
        return None
    return along


def fair_ring(way, paper):
    """The same of a ring that is fair: who takes no step in it is all along where it is at first."""
    along = ring_of(way, paper)
    if along is None:
        return None
    stepping = {hand: True for hand, told in paper[1]}
    return along if all([hand in stepping or spot == 0 for hand, spot in enumerate(along[0][0])]) else None


CLAIMS = {
    "never two": (("way",), shows_never_two),
    "two": (("way",), shows_two),
    "not kept out": (("way", "hand"), shows_not_kept),
    "kept out": (("way", "hand"), shows_kept),
    "not stuck": (("way",), shows_not_stuck),
    "stuck": (("way",), shows_stuck),
    "in turn": (("way", "hand", "other"), shows_in_turn),
    "out of turn": (("way", "hand", "other"), shows_out_of_turn),
    "goings": (("way", "hand", "number"), shows_goings),
    "as many": (("way", "hand", "number"), shows_as_many),
    "endless": (("way", "hand"), shows_endless),
    "every": (("template",), shows_every),
    "breaks": (("template", "many"), shows_breaks),
    "tree": (("node", "many"), shows_tree),
}
