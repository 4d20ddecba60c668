"""Fair rings: by which a hand is kept out, and by which all are stuck."""

from onewithin.knots import knots_of
from onewithin.searches import run_in
from onewithin.standings import are_all_outside, comes_within, is_on_its_way, moves
from onewithin.tables import edges_among, table_of
from onewithin.ways import check_hand, check_way


def kept_out(way, hand):
    """(run, ring) by which a hand is on its way for ever, or None."""
    check_hand(way, hand)
    table = table_of(way)
    return run_and_ring(table, edges_on_its_way(way, table, hand))


def stuck(way):
    """(run, ring) by which not all are outside and nobody comes within for ever, or None."""
    check_way(way)
    table = table_of(way)
    return run_and_ring(table, edges_in_vain(way, table))


def edges_on_its_way(way, table, hand):
    """The edges among those standings of the table in which the hand is on its way."""
    return edges_among(way, {standing: True for standing in table if is_on_its_way(way, standing, hand)})


def edges_in_vain(way, table):
    """The edges among those in which not all are outside, but those by which a hand comes within."""
    edges = {}
    for standing in table:
        if not are_all_outside(standing):
            edges[standing] = [edge for edge in moves(way, standing) if is_vain(way, standing, edge)]
    return edges


def is_vain(way, standing, edge):
    """True where by this step nobody comes within and not all are outside behind it."""
    step, behind = edge
    return not are_all_outside(behind) and not comes_within(way, standing, step, behind)


def run_and_ring(table, edges):
    """A fair ring along the edges, with a run to it, or None.

    In each standing of the edges some hand isn't outside. A ring stays in one knot. A hand without a step in its
    knot is at the same spot all along it, so there is a fair ring in the knot just where all of these are outside.
    """
    for knot in knots_of(edges):
        if not helpers_in(knot):
            first = list(knot)[0]
            return run_in(table, first), ring_at(knot, first)
    return None


def helpers_in(knot):
    """The hands that aren't outside in a knot and take no step in it: each of their steps leads out of it."""
    stepping = hands_stepping(knot)
    return [hand for hand in hands_inside(list(knot)[0]) if hand not in stepping]


def hands_inside(standing):
    """The hands that aren't outside."""
    return [hand for hand, spot in enumerate(standing[0]) if spot != 0]


def hands_stepping(knot):
    """The hands that take a step in the knot, as keys."""
    hands = {}
    for standing in knot:
        for step, behind in knot[standing]:
            hands[step[0]] = True
    return hands


def ring_at(knot, first):
    """A fair ring at the first standing.

    Who is outside there and takes no step stays outside, so all others have to step.
    """
    ring = []
    here = first
    missing = hands_inside(first)
    while missing:
        steps, here = nearest(knot, here, missing, None)
        ring.extend(steps)
        taken = [hand for hand, told in steps]
        missing = [hand for hand in missing if hand not in taken]
    if here != first:
        ring.extend(nearest(knot, here, [], first)[0])
    return tuple(ring)


def nearest(knot, start, hands, goal):
    """(steps, standing behind them): the fewest whose last one is of one of the hands or leads to the goal.

    There are such: in a knot each standing leads to all others.
    """
    table = {start: None}
    waiting = [start]
    at = 0
    while True:
        here = waiting[at]
        for step, behind in knot[here]:
            if step[0] in hands or behind == goal:
                return run_in(table, here) + (step,), behind
            if behind not in table:
                table[behind] = (here, step)
                waiting.append(behind)
        at += 1
