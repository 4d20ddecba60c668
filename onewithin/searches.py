"""Searches: all that steps lead to, and shortest runs to it."""

from onewithin.errors import TooMany

MOST = 3000


def table_from(first, moves_from, most):
    """For each thing come to (the one ahead of it, the step from there), None for the first.

    moves_from tells the list of (step, thing behind it) of a thing. The things are in the order of their shortest
    runs, which lead back along what is told. TooMany is told of more than most.
    """
    table = {first: None}
    waiting = [first]
    at = 0
    while at < len(waiting):
        here = waiting[at]
        for step, behind in moves_from(here):
            if behind not in table:
                table[behind] = (here, step)
                waiting.append(behind)
            if len(table) > most:
                raise TooMany("more is come to than is gone through")
        at += 1
    return table


def run_in(table, thing):
    """The run that the table has to one of its things."""
    steps = []
    ahead = table[thing]
    while ahead is not None:
        steps.append(ahead[1])
        ahead = table[ahead[0]]
    return tuple(reversed(steps))
