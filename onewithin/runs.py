"""Runs: steps taken one behind the other."""

from onewithin.errors import NoStep
from onewithin.plain import is_from_to, is_tuple, is_whole
from onewithin.standings import check_standing, moves_of


def run_from(way, standing, run):
    """The standing to which a run leads from a standing."""
    check_standing(way, standing)
    if not isinstance(run, tuple):
        raise NoStep(None)
    here = standing
    for number, step in enumerate(run):
        behind = behind_step(way, here, step)
        if behind is None:
            raise NoStep(number)
        here = behind
    return here


def behind_step(way, standing, step):
    """The standing behind a step, None where it can't be taken or, of any kind, is none."""
    if not is_step(way, step):
        return None
    for move, behind in moves_of(way, standing, step[0]):
        if move == step:
            return behind
    return None


def is_step(way, thing):
    # (0, True) equals (0, 1), so the kinds are looked at ahead of any comparison.
    if not is_tuple(thing, 2, 2):
        return False
    hand, told = thing
    return is_from_to(hand, 0, len(way[1]) - 1) and (told is None or is_whole(told))
