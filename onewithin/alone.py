"""A hand that steps alone, and one that goes in hidden from another one."""

from onewithin.standings import first_of, moves_of, part_in
from onewithin.ways import check_hand, check_two


def alone(way, hand):
    """How many steps a hand alone takes until within, and until outside again; None for what never comes."""
    check_hand(way, hand)
    inside = go_until(way, first_of(way), hand, lambda here: is_within(way, here, hand))
    if inside is None:
        return None, None
    run, standing = inside
    outside = go_until(way, standing, hand, lambda here: here[0][hand] == 0)
    if outside is None:
        return len(run), None
    return len(run), len(run) + len(outside[0])


def hidden(way, hand, other):
    """The run in which the hand stops ahead of its first writing, the other goes in, then the hand; or None."""
    check_two(way, hand, other)
    goals = [
        (hand, lambda here: is_within(way, here, hand) or is_to_write(way, here, hand)),
        (other, lambda here: is_within(way, here, other)),
        (hand, lambda here: is_within(way, here, hand)),
    ]
    standing = first_of(way)
    run = ()
    for who, is_there in goals:
        found = go_until(way, standing, who, is_there)
        if found is None:
            return None
        steps, standing = found
        run += steps
    return run


def go_until(way, standing, hand, is_there):
    """(run, standing behind it) by the hand's steps alone until it is there, None where it never is.

    No other hand is amid a writing here, so there is just one step in each standing.
    """
    seen = {}
    steps = []
    here = standing
    while not is_there(here):
        if here in seen:
            return None
        seen[here] = True
        step, here = moves_of(way, here, hand)[0]
        steps.append(step)
    return tuple(steps), here


def is_within(way, standing, hand):
    return part_in(way, standing, hand) == "within"


def is_to_write(way, standing, hand):
    """True where the hand is at a write row."""
    place = standing[0][hand] // 2
    return place > 0 and way[1][hand][2][place - 1][0] == "write"
