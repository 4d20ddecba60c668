"""Standings of a way, and the steps that can be taken in them."""

from onewithin.errors import NoStanding
from onewithin.plain import is_from_to, is_tuple
from onewithin.ways import check_way, part_of


def first_standing(way):
    """The standing in which all hands are outside and the boxes hold their starts."""
    check_way(way)
    return first_of(way)


def is_standing(way, thing):
    """True where the thing, of any kind, is a standing of the way, come to or not."""
    check_way(way)
    return is_standing_of(way, thing)


def is_standing_of(way, thing):
    """The same of what is known to be a way."""
    boxes, hands = way
    if not is_tuple(thing, 2, 2):
        return False
    spots, values = thing
    if not is_tuple(spots, len(hands), len(hands)) or not is_tuple(values, len(boxes), len(boxes)):
        return False
    if not all([is_from_to(value, 0, box[1] - 1) for value, box in zip(values, boxes)]):
        return False
    return all([is_spot(spot, program, boxes) for spot, program in zip(spots, hands)])


def steps_from(way, standing):
    """The steps of a standing: a tuple of (step, standing behind it)."""
    check_standing(way, standing)
    return tuple(moves(way, standing))


def check_standing(way, standing):
    """Refuse what is no way, then what is no standing of it."""
    if not is_standing(way, standing):
        raise NoStanding("no standing of this way")


def is_spot(thing, program, boxes):
    rows = program[2]
    if not is_from_to(thing, 0, len(rows) * 2 + 1):
        return False
    if thing % 2 == 0:
        return True
    return thing > 1 and takes_two(rows[thing // 2 - 1], boxes)


def takes_two(row, boxes):
    """True where the row is a writing that a hand can be amid."""
    return row[0] == "write" and boxes[row[1]][0] != "whole"


def first_of(way):
    boxes, hands = way
    return tuple([0 for program in hands]), tuple([start for kind, size, start in boxes])


def moves(way, standing):
    """A list of (step, standing behind it), of what is known to be a standing of a way."""
    found = []
    for hand in range(len(way[1])):
        found.extend(moves_of(way, standing, hand))
    return found


def moves_of(way, standing, hand):
    """Those of the moves that are one hand's."""
    spots, values = standing
    place = spots[hand] // 2
    if place == 0:
        return [((hand, None), (put(spots, hand, 2), values))]
    row = way[1][hand][2][place - 1]
    if row[0] == "look":
        return looks(way, standing, hand, row)
    if takes_two(row, way[0]) and spots[hand] % 2 == 0:
        return [((hand, None), (put(spots, hand, spots[hand] + 1), values))]
    spot = spot_on(way, hand, place)
    return [((hand, None), (put(spots, hand, spot), put(values, row[1], row[2])))]


def looks(way, standing, hand, row):
    spots, values = standing
    box, numbers, place = row[1:]
    found = []
    for told in may_be_told(way[0][box], values[box], being_written(way, spots, box)):
        spot = spot_on(way, hand, spots[hand] // 2) if told in numbers else place * 2
        found.append(((hand, told), (put(spots, hand, spot), values)))
    return found


def may_be_told(box, value, coming):
    """The numbers that a look at a box may be told, rising: it holds value, coming is being written, None of none."""
    kind, size, start = box
    if coming is None:
        return [value]
    if kind == "either":
        return sorted({value, coming})
    return list(range(size))


def being_written(way, spots, box):
    """The number that a hand is amid writing into this box, None where no hand is."""
    for spot, program in zip(spots, way[1]):
        if spot % 2 == 1:
            row = program[2][spot // 2 - 1]
            if row[1] == box:
                return row[2]
    return None


def spot_on(way, hand, place):
    """The spot to which a hand goes on from a place."""
    return 0 if place == len(way[1][hand][2]) else place * 2 + 2


def put(parts, at, part):
    """The same tuple with another part in one place."""
    return parts[:at] + (part,) + parts[at + 1:]


def part_in(way, standing, hand):
    """The part in which a hand is in a standing."""
    return part_of(way[1][hand], standing[0][hand] // 2)


def how_many_within(way, standing):
    return len([hand for hand in range(len(way[1])) if part_in(way, standing, hand) == "within"])


def is_on_its_way(way, standing, hand):
    return part_in(way, standing, hand) in ("doorway", "waiting")


def are_all_outside(standing):
    return all([spot == 0 for spot in standing[0]])


def comes_within(way, standing, step, behind):
    """True where by this step its hand comes within, and wasn't there before."""
    hand = step[0]
    return part_in(way, standing, hand) != "within" and part_in(way, behind, hand) == "within"
