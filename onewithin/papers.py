"""Papers: for each question the claim that is true, and what shows it to the checker."""

from onewithin.anymany import for_any
from onewithin.knots import knots_of, numbered
from onewithin.pairs import all_pairs
from onewithin.rings import edges_in_vain, edges_on_its_way, helpers_in, kept_out, nearest, stuck
from onewithin.safety import two_within
from onewithin.searches import MOST, run_in, table_from
from onewithin.standings import comes_within
from onewithin.tables import all_standings, table_of
from onewithin.trees import check_tree
from onewithin.turns import goings_from, most_goings, out_of_turn, turn_table, waiting_edges


def paper_two(way):
    """(claim, paper): two within, or never."""
    run = two_within(way)
    if run is not None:
        return ("two", way), run
    return ("never two", way), all_standings(way)


def paper_kept(way, hand):
    """(claim, paper): the hand is kept out, or not."""
    found = kept_out(way, hand)
    if found is not None:
        return ("kept out", way, hand), found
    table = table_of(way)
    return ("not kept out", way, hand), marked(table, helper_marks(edges_on_its_way(way, table, hand)))


def paper_stuck(way):
    """(claim, paper): all are stuck, or not."""
    found = stuck(way)
    if found is not None:
        return ("stuck", way), found
    table = table_of(way)
    return ("not stuck", way), marked(table, helper_marks(edges_in_vain(way, table)))


def paper_turn(way, hand, other):
    """(claim, paper): the other goes in out of turn, or in turn alone."""
    run = out_of_turn(way, hand, other)
    if run is not None:
        return ("out of turn", way, hand, other), run
    return ("in turn", way, hand, other), tuple(sorted(turn_table(way, hand, other)))


def paper_goings(way, hand):
    """A tuple of one or two (claim, paper): goings-in are endless, or never more than a number and once as many."""
    most = most_goings(way, hand)
    table = table_of(way)
    edges = waiting_edges(way, hand)
    if most is None:
        return ((("endless", way, hand), endless_ring(way, table, edges)),)
    marks = goings_from(way, edges)
    never_more = ("goings", way, hand, most), marked(table, marks)
    if most == 0:
        return (never_more,)
    return never_more, (("as many", way, hand, most), most_run(way, table, edges, marks))


def paper_any(template):
    """(claim, paper): never two within for any many of hands, or it breaks; None where this is open."""
    told = for_any(template)
    if told[0] == "every":
        return ("every", template), all_pairs(template)
    if told[0] == "breaks":
        word, many, run = told
        return ("breaks", template, many), run
    return None


def paper_tree(node, many):
    """(claim, paper): the tree has never two within; None where the node has."""
    check_tree(node, many)
    claim, paper = paper_two(node)
    return (("tree", node, many), paper) if claim[0] == "never two" else None


def marked(table, marks):
    """The marked cover of all standings of the table, None where there is no mark."""
    return tuple([(standing, marks.get(standing)) for standing in sorted(table)])


def helper_marks(edges):
    """For each standing of the edges (number, helper), where there is no fair ring along them.

    The numbers fall along each edge that leads out of a knot. In each knot there is a hand by whose steps it is left.
    """
    number = numbered(edges)
    most = max([0] + list(number.values()))
    marks = {}
    for knot in knots_of(edges):
        helper = helpers_in(knot)[0]
        for standing in knot:
            marks[standing] = (most - number[standing], helper)
    return marks


def endless_ring(way, table, edges):
    """(run, ring) by which others go in again and again along the edges; there is a knot amid which one does."""
    for knot in knots_of(edges):
        for standing in knot:
            for step, behind in knot[standing]:
                if comes_within(way, standing, step, behind):
                    return run_in(table, standing), (step,) + nearest(knot, behind, [], standing)[0]
    return None


def most_run(way, table, edges, marks):
    """(run, on): on has the most goings-in, which the marks tell of each standing, until none are to come."""
    most = max(marks.values())
    start = [standing for standing in table if marks.get(standing) == most][0]
    ahead = table_from(start, lambda here: lossless(way, edges, marks, here), MOST)
    last = [standing for standing in ahead if marks[standing] == 0][0]
    return run_in(table, start), run_in(ahead, last)


def lossless(way, edges, marks, standing):
    """Those edges of a standing along which none of the goings-in to come are lost."""
    found = []
    for step, behind in edges[standing]:
        if marks[behind] + int(comes_within(way, standing, step, behind)) == marks[standing]:
            found.append((step, behind))
    return found
