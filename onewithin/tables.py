"""All standings that are come to, and shortest runs to them."""

from onewithin.errors import TooMany
from onewithin.standings import check_standing, first_of, moves
from onewithin.ways import check_way

MOST = 3000


def all_standings(way):
    """A rising tuple of all standings come to."""
    check_way(way)
    return tuple(sorted(table_of(way)))


def run_to(way, standing):
    """A shortest run from the first standing to this one, None where it isn't come to."""
    check_standing(way, standing)
    table = table_of(way)
    return run_in(table, standing) if standing in table else None


def table_of(way):
    """For each standing come to (the one ahead of it, the step from there), None for the first.

    The standings are in the order of their shortest runs, which lead back along what is told.
    """
    first = first_of(way)
    table = {first: None}
    waiting = [first]
    at = 0
    while at < len(waiting):
        here = waiting[at]
        for step, behind in moves(way, here):
            if behind not in table:
                table[behind] = (here, step)
                waiting.append(behind)
            if len(table) > MOST:
                raise TooMany("more standings than are gone through")
        at += 1
    return table


def run_in(table, standing):
    """The run that the table has to one of its standings."""
    steps = []
    ahead = table[standing]
    while ahead is not None:
        steps.append(ahead[1])
        ahead = table[ahead[0]]
    return tuple(reversed(steps))
