"""Ways: boxes, and the programs of the hands that share them."""

from onewithin.errors import NoHand, NoPlace, NoWay
from onewithin.plain import is_from_to, is_rising, is_tuple, is_word

KINDS = ("whole", "either", "torn")


def is_way(thing):
    """True where the thing, of any kind, is a way."""
    if not is_tuple(thing, 2, 2):
        return False
    boxes, hands = thing
    if not is_tuple(boxes, 1, 12) or not is_tuple(hands, 1, 4):
        return False
    if not all([is_box(box) for box in boxes]):
        return False
    if not all([is_program(program, boxes) for program in hands]):
        return False
    return all([writers(hands, box) <= 1 for box in range(len(boxes)) if boxes[box][0] != "whole"])


def is_node(thing):
    """True where the thing, of any kind, is a node of a tree."""
    if not is_way(thing):
        return False
    boxes, hands = thing
    if len(hands) != 2 or len(boxes) > 4 or not all([kind == "whole" for kind, size, start in boxes]):
        return False
    return all([is_node_program(program) for program in hands])


def part_at(way, hand, place):
    """The part in which a hand is at a place, as a text."""
    check_hand(way, hand)
    if not is_from_to(place, 0, len(way[1][hand][2])):
        raise NoPlace("no place of this hand")
    return part_of(way[1][hand], place)


def check_way(way):
    if not is_way(way):
        raise NoWay("no way")


def check_hand(way, hand):
    """Refuse what is no way, then what is no hand of it."""
    check_way(way)
    if not is_from_to(hand, 0, len(way[1]) - 1):
        raise NoHand("no hand of this way")


def check_two(way, hand, other):
    """Refuse what is no way, then what are not two hands of it."""
    check_hand(way, hand)
    check_hand(way, other)
    if hand == other:
        raise NoHand("twice the same hand")


def part_of(program, place):
    door, within = program[:2]
    if place == 0:
        return "outside"
    if place <= door:
        return "doorway"
    if place < within:
        return "waiting"
    if place == within:
        return "within"
    return "leaving"


def is_box(thing):
    if not is_tuple(thing, 3, 3):
        return False
    kind, size, start = thing
    return is_word(kind, KINDS) and is_from_to(size, 2, 5) and is_from_to(start, 0, size - 1)


def is_program(thing, boxes):
    """True where the thing is a program over these boxes, which are known to be boxes."""
    if not is_frame(thing, 16):
        return False
    door, within, rows = thing
    for at, row in enumerate(rows):
        low, high = places_from(at + 1, within, len(rows))
        if not is_write(row, boxes) and not is_look(row, boxes, low, high):
            return False
    return True


def is_node_program(program):
    """True where what is known to be a program of a way is one of a node."""
    door, within, rows = program
    return len(rows) <= 8 and all([row[0] == "write" for row in rows[within - 1:]])


def is_frame(thing, most):
    """True where the thing is a program of at most so many rows, whatever these are."""
    if not is_tuple(thing, 3, 3):
        return False
    door, within, rows = thing
    if not is_tuple(rows, 1, most) or not is_from_to(within, 1, len(rows)):
        return False
    return is_from_to(door, 0, within - 1)


def places_from(at, within, many):
    """The least and the greatest place to which a look at row number at may lead."""
    if at < within:
        return 1, within
    if at == within:
        return within, within
    return within + 1, many


def is_write(row, boxes):
    if not is_tuple(row, 3, 3):
        return False
    word, box, number = row
    if not is_word(word, ("write",)) or not is_from_to(box, 0, len(boxes) - 1):
        return False
    return is_from_to(number, 0, boxes[box][1] - 1)


def is_look(row, boxes, low, high):
    if not is_tuple(row, 4, 4):
        return False
    word, box, numbers, place = row
    if not is_word(word, ("look",)) or not is_from_to(box, 0, len(boxes) - 1):
        return False
    return is_rising(numbers, boxes[box][1]) and is_from_to(place, low, high)


def writers(hands, box):
    """How many of the hands have write rows of this box."""
    return len([rows for door, within, rows in hands if writes(rows, box)])


def writes(rows, box):
    return any([row[0] == "write" and row[1] == box for row in rows])
