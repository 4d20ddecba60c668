"""All standings that are come to, and shortest runs to them."""

from onewithin.searches import MOST, run_in, table_from
from onewithin.standings import check_standing, first_of, moves
from onewithin.ways import check_way


def all_standings(way):
    """A rising tuple of all standings come to."""
    check_way(way)
    return tuple(sorted(table_of(way)))


def run_to(way, standing):
    """A shortest run from the first standing to this one, None where it isn't come to."""
    check_standing(way, standing)
    table = table_of(way)
    return run_in(table, standing) if standing in table else None


def table_of(way):
    """The table of all standings come to, TooMany where they are more than 3000."""
    return table_from(first_of(way), lambda standing: moves(way, standing), MOST)


def edges_among(way, here):
    """For each standing that is a key of here a list of its moves to such."""
    edges = {}
    for standing in here:
        edges[standing] = [edge for edge in moves(way, standing) if edge[1] in here]
    return edges
