"""Turns: runs out of turn, and goings-in ahead of a hand that waits."""

from onewithin.knots import numbered
from onewithin.searches import MOST, run_in, table_from
from onewithin.standings import comes_within, first_of, moves, part_in
from onewithin.tables import edges_among, table_of
from onewithin.ways import check_hand, check_two


def out_of_turn(way, hand, other):
    """A shortest run by which the other is within, while the hand has waited since it was outside; or None."""
    check_two(way, hand, other)
    table = turn_table(way, hand, other)
    for row in table:
        standing, truth = row
        if truth and part_in(way, standing, other) == "within":
            return run_in(table, row)
    return None


def most_goings(way, hand):
    """The greatest number of goings-in of others while the hand waits once, None where there is no greatest."""
    check_hand(way, hand)
    most = goings_from(way, waiting_edges(way, hand))
    return None if most is None else max([0] + list(most.values()))


def turn_table(way, hand, other):
    """The table of all (standing, truth) come to, True while the hand has waited since the other was outside."""
    # TooMany is told of the standings, of which each has two rows at most.
    table_of(way)
    return table_from((first_of(way), False), lambda row: turn_moves(way, row, hand, other), 2 * MOST)


def turn_moves(way, row, hand, other):
    standing, truth = row
    found = []
    for step, behind in moves(way, standing):
        since = truth or part_in(way, behind, other) == "outside"
        found.append((step, (behind, since and part_in(way, behind, hand) == "waiting")))
    return found


def waiting_edges(way, hand):
    """The edges among those standings come to in which the hand waits."""
    table = table_of(way)
    return edges_among(way, {standing: True for standing in table if part_in(way, standing, hand) == "waiting"})


def goings_from(way, edges):
    """For each standing the most goings-in along the edges from it on; None where there is no end of them.

    There is no end just where a hand goes in amid a knot. Else all of a knot have the same, and as the numbers of knots
    don't fall along the edges, those of the greatest numbers are told first.
    """
    number = numbered(edges)
    most = {knot: 0 for knot in number.values()}
    for standing in sorted(edges, key=lambda here: number[here], reverse=True):
        knot = number[standing]
        for step, behind in edges[standing]:
            goes = comes_within(way, standing, step, behind)
            if goes and number[behind] == knot:
                return None
            most[knot] = max(most[knot], most[number[behind]] + int(goes))
    return {standing: most[number[standing]] for standing in edges}
