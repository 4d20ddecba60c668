"""Pairs: what any two hands of a template see of each other, with a third one that can make any look fail."""

from onewithin.errors import NoPair
from onewithin.plain import is_from_to, is_tuple
from onewithin.searches import MOST, table_from
from onewithin.standings import may_be_told, put, takes_two
from onewithin.templates import check_template


def first_pair(template):
    """The pair in which both are outside and the boxes hold their starts."""
    check_template(template)
    return first_pair_of(template)


def pair_steps(template, pair):
    """The steps of a pair: a tuple of (step, pair behind it)."""
    check_template(template)
    if not is_pair(template, pair):
        raise NoPair("no pair of this template")
    return tuple(pair_moves(template, pair))


def all_pairs(template):
    """A rising tuple of all pairs come to."""
    check_template(template)
    return tuple(sorted(table_from(first_pair_of(template), lambda pair: pair_moves(template, pair), MOST)))


def first_pair_of(template):
    return (0, 0), tuple([start for kind, size, start in template[0] * 2])


def is_pair(template, thing):
    """True where the thing, of any kind, is a pair of what is known to be a template, come to or not."""
    if not is_tuple(thing, 2, 2):
        return False
    boxes = template[0] * 2
    spots, values = thing
    if not is_tuple(spots, 2, 2) or not is_tuple(values, len(boxes), len(boxes)):
        return False
    if not all([is_from_to(value, 0, box[1] - 1) for value, box in zip(values, boxes)]):
        return False
    return is_pair_spot(template, 0, spots[0]) and is_pair_spot(template, 1, spots[1])


def is_pair_spot(template, hand, thing):
    rows = template[1][2]
    if not is_from_to(thing, 0, len(rows) * 2 + 1):
        return False
    if thing % 2 == 0:
        return True
    return thing > 1 and has_odd_spot(template, hand, rows[thing // 2 - 1])


def has_odd_spot(template, hand, row):
    """True where a hand can be amid the writing of this row, or can have looked at the other by it."""
    return has_other(row, hand) if row[0] == "look" else takes_two(row, template[0])


def has_other(row, hand):
    """True where the other one of the two is among those at whom a hand looks by this row."""
    return row[1] == "others" or row[1] == ("higher" if hand == 0 else "lower")


def pair_moves(template, pair):
    """A list of (step, pair behind it), of what is known to be a pair of a template."""
    return pair_moves_of(template, pair, 0) + pair_moves_of(template, pair, 1)


def pair_moves_of(template, pair, hand):
    """Those of the moves that are one hand's."""
    kinds, program = template
    spots, values = pair
    place = spots[hand] // 2
    if place == 0:
        return [((hand, None), (put(spots, hand, 2), values))]
    row = program[2][place - 1]
    if row[0] == "look":
        return pair_looks(template, pair, hand, row)
    if takes_two(row, kinds) and spots[hand] % 2 == 0:
        return [((hand, None), (put(spots, hand, spots[hand] + 1), values))]
    spot = 0 if place == len(program[2]) else place * 2 + 2
    return [((hand, None), (put(spots, hand, spot), put(values, hand * len(kinds) + row[1], row[2])))]


def pair_looks(template, pair, hand, row):
    """The moves at a look row: it stands ahead of within, so there is a row behind it."""
    spots, values = pair
    spot = spots[hand]
    numbers, place = row[3:]
    back = put(spots, hand, place * 2), values
    found = []
    if has_other(row, hand) and spot % 2 == 0:
        seen = put(spots, hand, spot + 1), values
        for told in told_of_other(template, pair, hand, row[2]):
            found.append(((hand, told), seen if told in numbers else back))
    else:
        found.append(((hand, "on"), (put(spots, hand, spot // 2 * 2 + 2), values)))
    found.append(((hand, "back"), back))
    return found


def told_of_other(template, pair, hand, kind):
    """The numbers that a hand may be told of the other's box of this kind, rising."""
    kinds, program = template
    spots, values = pair
    other = 1 - hand
    coming = None
    if spots[other] % 2 == 1:
        row = program[2][spots[other] // 2 - 1]
        if row[0] == "write" and row[1] == kind:
            coming = row[2]
    return may_be_told(kinds[kind], values[other * len(kinds) + kind], coming)


def are_both_within(template, pair):
    within = template[1][1]
    return all([spot // 2 == within for spot in pair[0]])
