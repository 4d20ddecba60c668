"""Knots: those standings that lead back to one another.

Edges are a dict: for each standing a list of (step, standing behind it), each of these among its keys.
"""


def knots_of(edges):
    """A list of the knots, in the order of their first standings in the edges.

    Each is told as its own edges, those that lead out of it left out.
    """
    number = numbered(edges)
    knots = {}
    for standing in edges:
        knot = knots.setdefault(number[standing], {})
        knot[standing] = [edge for edge in edges[standing] if number[edge[1]] == number[standing]]
    return list(knots.values())


def numbered(edges):
    """For each standing the number of its knot; along no edge the numbers fall.

    The standing that is done last leads to no knot that isn't done but its own along the edges turned round.
    """
    ahead = turned_round(edges)
    number = {}
    many = 0
    for standing in reversed(done_order(edges)):
        if standing not in number:
            number[standing] = many
            spread(ahead, standing, number)
            many += 1
    return number


def turned_round(edges):
    """For each standing a list of those from which an edge leads to it."""
    ahead = {standing: [] for standing in edges}
    for standing in edges:
        for step, behind in edges[standing]:
            ahead[behind].append(standing)
    return ahead


def spread(ahead, start, number):
    """Give the number of the start to all without one that lead to it."""
    waiting = [start]
    while waiting:
        here = waiting.pop()
        for standing in ahead[here]:
            if standing not in number:
                number[standing] = number[start]
                waiting.append(standing)


def done_order(edges):
    """The standings in the order in which all that they lead to is gone through."""
    seen = {}
    order = []
    for start in edges:
        if start not in seen:
            go_through(edges, start, seen, order)
    return order


def go_through(edges, start, seen, order):
    seen[start] = True
    # The path is a list of its own, as calls within calls would go too deep.
    path = [(start, 0)]
    while path:
        standing, at = path.pop()
        if at == len(edges[standing]):
            order.append(standing)
        else:
            path.append((standing, at + 1))
            behind = edges[standing][at][1]
            if behind not in seen:
                seen[behind] = True
                path.append((behind, 0))
