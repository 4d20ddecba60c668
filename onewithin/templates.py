"""Templates: one program for any many of hands, each with its own boxes."""

from onewithin.errors import NoMany, NoTemplate
from onewithin.plain import is_from_to, is_rising, is_tuple, is_word
from onewithin.ways import is_box, is_frame, is_write

WHOM = ("others", "lower", "higher")


def is_template(thing):
    """True where the thing, of any kind, is a template."""
    if not is_tuple(thing, 2, 2):
        return False
    kinds, program = thing
    if not is_tuple(kinds, 1, 2) or not all([is_box(kind) for kind in kinds]) or not is_frame(program, 8):
        return False
    door, within, rows = program
    if not all([is_look_at(row, kinds, within) or is_write(row, kinds) for row in rows[:within - 1]]):
        return False
    if not all([is_write(row, kinds) for row in rows[within - 1:]]):
        return False
    # So many rows the program of one hand among four may have.
    return sum([1 if row[0] == "write" else 3 for row in rows]) <= 16


def way_for(template, many):
    """The way of a template for so many hands."""
    check_template(template)
    if not is_from_to(many, 1, 4):
        raise NoMany("no number of hands from 1 to 4")
    return template[0] * many, tuple([program_for(template, hand, many) for hand in range(many)])


def check_template(template):
    if not is_template(template):
        raise NoTemplate("no template")


def is_look_at(row, kinds, within):
    """True where the row is a look row of a template ahead of within."""
    if not is_tuple(row, 5, 5):
        return False
    word, whom, kind, numbers, place = row
    if not is_word(word, ("look",)) or not is_word(whom, WHOM) or not is_from_to(kind, 0, len(kinds) - 1):
        return False
    return is_rising(numbers, kinds[kind][1]) and is_from_to(place, 1, within)


def program_for(template, hand, many):
    """The program of one hand among so many."""
    kinds, program = template
    door, within, rows = program
    become = [rows_of(row, len(kinds), hand, many) for row in rows]
    # For each place how many rows come of those ahead of it: 0 of places 0 and 1.
    ahead = [0]
    for group in become:
        ahead.append(ahead[-1] + len(group))
    told = []
    for group in become:
        for row in group:
            told.append(row if row[0] == "write" else row[:3] + (ahead[row[3] - 1] + 1,))
    return ahead[door], ahead[within - 1] + 1, tuple(told)


def rows_of(row, size, hand, many):
    """The rows that come of a template's row of so many kinds, looks still with the template's place."""
    if row[0] == "write":
        return [("write", hand * size + row[1], row[2])]
    whom, kind, numbers, place = row[1:]
    return [("look", other * size + kind, numbers, place) for other in looked_at(whom, hand, many)]


def looked_at(whom, hand, many):
    """The hands at which one hand among so many looks, rising."""
    if whom == "lower":
        return list(range(hand))
    if whom == "higher":
        return list(range(hand + 1, many))
    return [other for other in range(many) if other != hand]
