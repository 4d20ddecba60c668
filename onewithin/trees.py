"""Trees: a way of two hands put together for up to four."""

from onewithin.errors import NoMany, NoNode
from onewithin.plain import is_from_to
from onewithin.ways import is_node


def tree(node, many):
    """The tree of a node for 2 to 4 hands, a way."""
    check_tree(node, many)
    boxes, (left, right) = node
    size = len(boxes)
    if many == 2:
        return node
    if many == 3:
        return boxes * 2, (joined(left, 0, left, size), joined(right, 0, left, size), moved(right, size))
    # The other node's boxes stand between those of the first one and of the top.
    top = size * 2
    hands = joined(left, 0, left, top), joined(right, 0, left, top)
    return boxes * 3, hands + (joined(left, size, right, top), joined(right, size, right, top))


def check_tree(node, many):
    """Refuse what is no node, then what is no number of hands of its tree."""
    if not is_node(node):
        raise NoNode("no node of a tree")
    if not is_from_to(many, 2, 4):
        raise NoMany("no number of hands from 2 to 4")


def joined(first, at, top, top_at):
    """The program of a hand that goes through its first node, whose boxes begin at at, and within that the top."""
    door, within, rows = moved(first, at)
    top_within, top_rows = moved(top, top_at)[1:]
    ahead = within - 1
    amid = tuple([row_on(row, ahead) for row in top_rows])
    return door, ahead + top_within, rows[:ahead] + amid + rows[ahead:]


def moved(program, at):
    """The same program over boxes that begin at at."""
    door, within, rows = program
    return door, within, tuple([row[:1] + (row[1] + at,) + row[2:] for row in rows])


def row_on(row, ahead):
    """The same row with so many rows more ahead of it."""
    return row if row[0] == "write" else row[:3] + (row[3] + ahead,)
