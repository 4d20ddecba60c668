"""Known ways and templates; all their boxes are whole and start with 0."""

from onewithin.errors import NoMany, NoName
from onewithin.plain import is_from_to, is_word
from onewithin.templates import way_for

FLAGS = ((("whole", 2, 0),), (1, 3, (
    ("write", 0, 1),
    ("look", "others", 0, (0,), 2),
    ("write", 0, 0),
)))
ONEBIT = ((("whole", 2, 0),), (0, 6, (
    ("write", 0, 0),
    ("look", "lower", 0, (0,), 2),
    ("write", 0, 1),
    ("look", "lower", 0, (0,), 1),
    ("look", "higher", 0, (0,), 5),
    ("write", 0, 0),
)))


def known_way(name, many):
    """The known way of this name for so many hands."""
    if not is_word(name, tuple(MAKERS)):
        raise NoName("no known way")
    low, high = BOUNDS[name]
    if not is_from_to(many, low, high):
        raise NoMany("no number of hands of this known way")
    make = MAKERS[name]
    return make(many)


def known_template(name):
    """The known template of this name."""
    if not is_word(name, ("flags", "onebit")):
        raise NoName("no known template")
    return FLAGS if name == "flags" else ONEBIT


def boxes_of(many, size):
    return (("whole", size, 0),) * many


def turns_way(many):
    hands = []
    for hand in range(many):
        behind = hand + 1 if hand + 1 < many else 0
        hands.append((0, 2, (("look", 0, (hand,), 1), ("write", 0, behind))))
    return boxes_of(1, many), tuple(hands)


def peterson_way(many):
    return boxes_of(3, 2), (peterson_hand(0, 1), peterson_hand(1, 0))


def peterson_hand(hand, other):
    return 2, 5, (
        ("write", hand, 1),
        ("write", 2, other),
        ("look", other, (1,), 5),
        ("look", 2, (hand,), 3),
        ("write", hand, 0),
    )


def dekker_way(many):
    return boxes_of(3, 2), (dekker_hand(0, 1), dekker_hand(1, 0))


def dekker_hand(hand, other):
    return 1, 8, (
        ("write", hand, 1),
        ("look", other, (1,), 8),
        ("look", 2, (other,), 2),
        ("write", hand, 0),
        ("look", 2, (hand,), 5),
        ("write", hand, 1),
        ("look", other, (0,), 7),
        ("write", 2, other),
        ("write", hand, 0),
    )


def filter_way(many):
    return boxes_of(many * 2 - 1, many), tuple([filter_hand(hand, many) for hand in range(many)])


def filter_hand(hand, many):
    rows = []
    for level in range(1, many):
        rows.extend(level_rows(hand, level, many, len(rows)))
    rows.append(("write", hand, 0))
    return 2, len(rows), tuple(rows)


def level_rows(hand, level, many, ahead):
    """The rows of one level, so many rows ahead of it."""
    box = many + level - 1
    others = [other for other in range(many) if other != hand]
    rows = [("write", hand, level), ("write", box, hand), ("look", box, (hand,), ahead + many + 3)]
    return rows + [("look", other, tuple(range(level)), ahead + 3) for other in others]


def flags_way(many):
    return way_for(FLAGS, many)


def onebit_way(many):
    return way_for(ONEBIT, many)


MAKERS = {
    "turns": turns_way,
    "peterson": peterson_way,
    "dekker": dekker_way,
    "filter": filter_way,
    "flags": flags_way,
    "onebit": onebit_way,
}
BOUNDS = {
    "turns": (2, 4),
    "peterson": (2, 2),
    "dekker": (2, 2),
    "filter": (2, 3),
    "flags": (2, 4),
    "onebit": (2, 4),
}
