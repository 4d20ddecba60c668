"""Ways for the tests, and a slow second telling of the document to hold the program against.

The second telling is made of guards: it asks of every step that could be written whether it can be taken.
"""

import random

KINDS = ("whole", "either", "torn")

# Things of other kinds than any that the document asks for.
ODD = (None, True, False, -1, 10 ** 30, "", "0", "whole", b"", b"0", [], [0], {}, {0: 0}, (), (None,), ((),), ((), ()),
       set(), {0}, frozenset(), object(), len, int, range(2), ((0,), [0]), ([0], (0,)), {"a": (1,)}, "(0, None)")


def peterson():
    hands = []
    for i in (0, 1):
        j = 1 - i
        hands.append((2, 5, (("write", i, 1), ("write", 2, j), ("look", j, (1,), 5), ("look", 2, (i,), 3),
                             ("write", i, 0))))
    return ((("whole", 2, 0),) * 3, tuple(hands))


def dekker():
    hands = []
    for i in (0, 1):
        j = 1 - i
        hands.append((1, 8, (("write", i, 1), ("look", j, (1,), 8), ("look", 2, (j,), 2), ("write", i, 0),
                             ("look", 2, (i,), 5), ("write", i, 1), ("look", j, (0,), 7), ("write", 2, j),
                             ("write", i, 0))))
    return ((("whole", 2, 0),) * 3, tuple(hands))


def turns(many):
    hands = [(0, 2, (("look", 0, (i,), 1), ("write", 0, (i + 1) % many))) for i in range(many)]
    return ((("whole", max(many, 2), 0),), tuple(hands))


def flags(many, kind="whole"):
    """Each writes its own box and then looks at all others: never two within, and all can be stuck."""
    hands = []
    for i in range(many):
        rows = [("write", i, 1)]
        for j in range(many):
            if j != i:
                rows.append(("look", j, (0,), 2))
        within = len(rows) + 1
        hands.append((1, within, tuple(rows) + (("write", i, 0),)))
    return (((kind, 2, 0),) * many, tuple(hands))


def onebit(kind="whole"):
    """Of two hands; the lower one goes ahead, so the higher one can be kept out."""
    low = (0, 4, (("write", 0, 0), ("write", 0, 1), ("look", 1, (0,), 3), ("write", 0, 0)))
    high = (0, 5, (("write", 1, 0), ("look", 0, (0,), 2), ("write", 1, 1), ("look", 0, (0,), 1), ("write", 1, 0)))
    return (((kind, 2, 0),) * 2, (low, high))


def careless(many=2):
    """Each looks first and writes then: two can be within."""
    hands = ((0, 3, (("look", 0, (0,), 1), ("write", 0, 1), ("write", 0, 0))),) * many
    return ((("whole", 2, 0),), hands)


def plain_hand(many, at=None, row=None):
    """A program of so many rows which always goes on, but for one row."""
    rows = []
    for number in range(1, many + 1):
        place = number if number == many else 1
        rows.append(row if number == at else ("look", 0, (0, 1), place))
    return (0, many, tuple(rows))


def just_3000():
    return ((("whole", 2, 0),), tuple(plain_hand(many) for many in (14, 9, 9, 1)))


def just_3001():
    """400 standings until hand 0 has written, 2601 from then on."""
    return ((("whole", 2, 0),), (plain_hand(16, 4, ("write", 0, 1)), plain_hand(16, 9, ("look", 0, (1,), 9)),
                                 plain_hand(8, 7, ("look", 0, (1,), 7))))


def vast():
    """More than a thousand million standings, two within early among them."""
    row = ("look", 0, (0, 1, 2, 3, 4), 1)
    hands = []
    for i in range(4):
        rows = [row] + [("write", 3 * i + k % 3, k % 5) for k in range(15)]
        hands.append((0, 1, tuple(rows)))
    return ((("whole", 5, 0),) * 12, tuple(hands))


def jump(place):
    """A look that never goes on."""
    return ("look", 0, (), place)


def count_rows(at, boxes, done):
    """Rows from row at on which add 1 to what the boxes hold together, and go to row done before that overflows."""
    rows = ()
    for box in boxes:
        rows += (("look", box, (0,), at + 3), ("write", box, 1), jump(done), ("write", box, 0))
        at += 4
    return rows


def long_ring():
    """Hand 0 counts to 8, and for each time it does hand 1 counts on, to 4.

    They take turns by box 0. Hand 0 goes within where it looks and it isn't its turn, so that hand 1 has to be
    quicker, and a ring that keeps hand 0 out has to go through all that both count.
    """
    first = (("look", 0, (1,), 16),) + count_rows(2, (1, 2, 3), 14) + (("write", 0, 0), jump(1), ("write", 0, 0))
    second = (("look", 0, (0,), 1), ("look", 1, (0,), 13), ("look", 2, (0,), 13), ("look", 3, (0,), 13))
    second += count_rows(5, (4, 5), 13) + (("write", 0, 1), jump(1), ("write", 0, 0))
    return ((("whole", 2, 0),) * 6, ((0, 16, first), (0, 15, second)))


def long_run():
    """Three hands that count together and take turns by box 0, so that mostly one step alone changes anything."""
    first = count_rows(1, (1, 2, 3), 13) + (("write", 0, 0), ("look", 0, (1,), 14), jump(1), ("write", 0, 0))
    second = (("look", 0, (0,), 1), ("look", 1, (0,), 12), ("look", 2, (0,), 12), ("look", 3, (0,), 12))
    second += count_rows(5, (4,), 12) + (("write", 0, 2), ("look", 0, (0,), 10), jump(2))
    second += (("write", 0, 1), ("look", 0, (0,), 13), jump(2), ("write", 0, 0))
    third = (("look", 0, (2,), 1),) + count_rows(2, (5, 6), 12) + (("look", 7, (0,), 12), ("write", 7, 1))
    third += (("write", 0, 1), ("look", 0, (2,), 13), jump(2), ("write", 0, 0))
    return ((("whole", 3, 1),) + (("whole", 2, 0),) * 7, ((0, 16, first), (0, 15, second), (0, 15, third)))


def take(way, standing, hand, told):
    """The standing behind a step, None where it can't be taken."""
    boxes, hands = way
    spots, values = list(standing[0]), list(standing[1])
    rows = hands[hand][2]
    place, amid = divmod(spots[hand], 2)
    onward = 2 * ((place + 1) % (len(rows) + 1))
    row = rows[place - 1] if place else ("begin",)
    if (row[0] == "look") == (told is None):
        return None
    if row[0] == "look":
        if not can_be_told(way, standing, row[1], told):
            return None
        spots[hand] = onward if told in row[2] else 2 * row[3]
    elif row[0] == "write" and boxes[row[1]][0] != "whole" and not amid:
        spots[hand] += 1
    else:
        spots[hand] = onward
        if row[0] == "write":
            values[row[1]] = row[2]
    return tuple(spots), tuple(values)


def can_be_told(way, standing, box, number):
    kind, size, start = way[0][box]
    if number == standing[1][box]:
        return True
    for hand, (door, within, rows) in enumerate(way[1]):
        place, amid = divmod(standing[0][hand], 2)
        if amid and rows[place - 1][1] == box:
            return number < size and (kind == "torn" or number == rows[place - 1][2])
    return False


def steps(way, standing):
    found = []
    for hand in range(len(way[1])):
        for told in (None, 0, 1, 2, 3, 4):
            behind = take(way, standing, hand, told)
            if behind is not None:
                found.append(((hand, told), behind))
    return found


def start(way):
    return ((0,) * len(way[1]), tuple(box[2] for box in way[0]))


def distances(way, most=4000):
    """{standing come to: how many steps a shortest run to it has}; None where they are more than most."""
    far = {start(way): 0}
    edge = list(far)
    while edge and len(far) <= most:
        fresh = []
        for standing in edge:
            for step, behind in steps(way, standing):
                if behind not in far:
                    far[behind] = far[standing] + 1
                    fresh.append(behind)
        edge = fresh
    return far if len(far) <= most else None


def walk(way, standing, run):
    """All standings along a run, the first one and the last one with them."""
    along = [standing]
    for hand, told in run:
        behind = take(way, along[-1], hand, told)
        assert behind is not None, (along[-1], hand, told)
        along.append(behind)
    return along


def places(standing):
    return [spot // 2 for spot in standing[0]]


def within_count(way, standing):
    return sum(place == program[1] for place, program in zip(places(standing), way[1]))


def on_its_way(way, standing, hand):
    return 0 < places(standing)[hand] < way[1][hand][1]


def comes_in(way, standing, behind, hand):
    return places(standing)[hand] != way[1][hand][1] == places(behind)[hand]


def random_way(number, most_hands=3, most_rows=4):
    """A small way, the same for the same number."""
    chance = random.Random(number)
    many_hands = chance.randint(1, most_hands)
    boxes = []
    for _ in range(chance.randint(1, 3)):
        size = chance.choice((2, 2, 3))
        boxes.append((chance.choice(KINDS), size, chance.randrange(size)))
    owners = [chance.randrange(many_hands) for _ in boxes]
    hands = []
    for hand in range(many_hands):
        rows = chance.randint(1, most_rows)
        within = chance.randint(1, rows)
        mine = [at for at, box in enumerate(boxes) if box[0] == "whole" or owners[at] == hand]
        program = [random_row(chance, boxes, mine, at + 1, within, rows) for at in range(rows)]
        hands.append((chance.randrange(within), within, tuple(program)))
    return (tuple(boxes), tuple(hands))


def random_row(chance, boxes, mine, at, within, rows):
    if mine and chance.random() < 0.5:
        box = chance.choice(mine)
        return ("write", box, chance.randrange(boxes[box][1]))
    box = chance.randrange(len(boxes))
    numbers = tuple(number for number in range(boxes[box][1]) if chance.random() < 0.5)
    if at == within:
        return ("look", box, numbers, within)
    low, high = (1, within) if at < within else (within + 1, rows)
    return ("look", box, numbers, chance.randint(low, high))


def small_ways(many, most):
    """So many random ways of at most so many standings, with their distances."""
    found = []
    number = 0
    while len(found) < many:
        way = random_way(number)
        far = distances(way, most)
        if far is not None:
            found.append((way, far))
        number += 1
    return found


def part(way, standing, hand):
    """The part of a hand's place, by the words of the document."""
    place = places(standing)[hand]
    door, within, rows = way[1][hand]
    if place in range(1, within):
        return "doorway" if place <= door else "waiting"
    return "outside" if place == 0 else "within" if place == within else "leaving"


def waits(way, standing, hand):
    return part(way, standing, hand) == "waiting"


def flags_template(kind="whole"):
    return (((kind, 2, 0),), (1, 3, (("write", 0, 1), ("look", "others", 0, (0,), 2), ("write", 0, 0))))


def onebit_template(kind="whole"):
    rows = (("write", 0, 0), ("look", "lower", 0, (0,), 2), ("write", 0, 1), ("look", "lower", 0, (0,), 1),
            ("look", "higher", 0, (0,), 5), ("write", 0, 0))
    return (((kind, 2, 0),), (0, 6, rows))


def whom_has(whom, hand, other):
    return other != hand and (whom == "others" or (whom == "lower") == (other < hand))


def sources(template, hand, many):
    """For each row of a hand's program (the number of the template's row of which it comes, whom it looks at)."""
    found = []
    for number, row in enumerate(template[1][2], 1):
        if row[0] == "write":
            found.append((number, None))
        else:
            found += [(number, other) for other in range(many) if whom_has(row[1], hand, other)]
    return found


def expand(template, many):
    """A second telling of the way of a template: each row looks up of which row it comes."""
    kinds, (door, within, rows) = template
    hands = []
    for hand in range(many):
        origin = sources(template, hand, many)
        program = []
        for number, other in origin:
            row = rows[number - 1]
            if other is None:
                program.append(("write", [(h, k) for h in range(many) for k in range(len(kinds))].index((hand, row[1])),
                                row[2]))
            else:
                place = min(at for at, (source, _) in enumerate(origin, 1) if source >= row[4])
                program.append(("look", len(kinds) * other + row[2], row[3], place))
        hands.append((sum(number <= door for number, _ in origin), origin.index((within, None)) + 1, tuple(program)))
    return (tuple(kind for _ in range(many) for kind in kinds), tuple(hands))


def random_template(number, most_rows=5):
    """A small template, the same for the same number."""
    chance = random.Random(number)
    kinds = []
    for _ in range(chance.choice((1, 1, 2))):
        size = chance.choice((2, 2, 3))
        kinds.append((chance.choice(KINDS), size, chance.randrange(size)))
    many = chance.randint(1, most_rows)
    within = chance.randint((many + 1) // 2, many)
    rows = []
    for at in range(1, many + 1):
        kind = chance.randrange(len(kinds))
        if at < within and chance.random() < 0.6:
            numbers = tuple(value for value in range(kinds[kind][1]) if chance.random() < 0.5)
            rows.append(("look", chance.choice(("others", "lower", "higher")), kind, numbers, chance.randint(1, within)))
        else:
            rows.append(("write", kind, chance.randrange(kinds[kind][1])))
    return (tuple(kinds), (chance.randrange(within), within, tuple(rows)))


def pair_start(template):
    starts = tuple(start for kind, size, start in template[0])
    return ((0, 0), starts + starts)


def pair_take(template, pair, hand, what):
    """The pair behind a step, None where it can't be taken."""
    kinds, (door, within, rows) = template
    spots, values = list(pair[0]), list(pair[1])
    place, odd = divmod(spots[hand], 2)
    row = rows[place - 1] if place else ("begin",)
    if row[0] != "look":
        if what is not None:
            return None
        if row[0] == "write" and kinds[row[1]][0] != "whole" and not odd:
            spots[hand] += 1
        else:
            spots[hand] = 2 * ((place + 1) % (len(rows) + 1))
            if row[0] == "write":
                values[len(kinds) * hand + row[1]] = row[2]
        return tuple(spots), tuple(values)
    word, whom, kind, numbers, back = row
    sees = whom_has(whom, hand, 1 - hand)
    if what == "back":
        spots[hand] = 2 * back
    elif what == "on" and (odd or not sees):
        spots[hand] = 2 * (place + 1)
    elif isinstance(what, int) and sees and not odd and pair_can_be_told(template, pair, 1 - hand, kind, what):
        spots[hand] = spots[hand] + 1 if what in numbers else 2 * back
    else:
        return None
    return tuple(spots), tuple(values)


def pair_can_be_told(template, pair, owner, kind, number):
    """True where a look at the owner's box of a kind can be told this number."""
    kinds, (door, within, rows) = template
    place, odd = divmod(pair[0][owner], 2)
    if number == pair[1][len(kinds) * owner + kind]:
        return True
    if not odd or rows[place - 1][:2] != ("write", kind):
        return False
    return number < kinds[kind][1] and (kinds[kind][0] == "torn" or number == rows[place - 1][2])


def pair_steps(template, pair):
    found = []
    for hand in (0, 1):
        for what in (None, 0, 1, 2, 3, 4, "on", "back"):
            behind = pair_take(template, pair, hand, what)
            if behind is not None:
                found.append(((hand, what), behind))
    return found


def pairs_come_to(template):
    found = {pair_start(template)}
    waiting = list(found)
    while waiting:
        for step, behind in pair_steps(template, waiting.pop()):
            if behind not in found:
                found.add(behind)
                waiting.append(behind)
    return found


def pair_seen(template, many, standing, low, high):
    """What a standing of the way for so many is for two of its hands: a pair."""
    kinds = len(template[0])
    spots = []
    for hand, other in ((low, high), (high, low)):
        place, amid = divmod(standing[0][hand], 2)
        if place == 0:
            spots.append(0)
            continue
        number, looked = sources(template, hand, many)[place - 1]
        row = template[1][2][number - 1]
        seen = row[0] == "look" and whom_has(row[1], hand, other) and other < looked
        spots.append(2 * number + (1 if amid or seen else 0))
    values = standing[1]
    return tuple(spots), values[kinds * low:kinds * low + kinds] + values[kinds * high:kinds * high + kinds]


def pairs_3000():
    rows = (("look", "higher", 0, (0, 1, 2, 3, 4), 2), ("look", "others", 0, (0, 2, 3), 5), ("write", 0, 2),
            ("write", 1, 2), ("look", "others", 1, (0, 1, 2), 4), ("look", "lower", 0, (2,), 8), ("write", 0, 2),
            ("write", 1, 1))
    return ((("torn", 5, 0), ("whole", 5, 0)), (0, 8, rows))


def pairs_3001():
    rows = (("look", "lower", 0, (1, 2, 3, 4), 3), ("write", 0, 3), ("look", "higher", 1, (1, 3, 4), 7),
            ("write", 1, 1), ("look", "others", 0, (0, 4), 8), ("write", 0, 2), ("write", 1, 4), ("write", 0, 4))
    return ((("whole", 5, 0), ("torn", 5, 0)), (0, 8, rows))


def vast_node():
    """A node of more than 3000 standings."""
    first = (("look", 0, (1, 2, 3), 3), ("write", 2, 1), ("write", 0, 4), ("look", 0, (0, 2, 3), 6), ("write", 2, 3),
             ("look", 1, (0, 2, 4), 8), ("write", 3, 1), ("write", 1, 3))
    second = (("write", 0, 0), ("look", 0, (1, 4), 5), ("write", 1, 1), ("write", 0, 2), ("look", 1, (2, 3), 7),
              ("write", 1, 2), ("look", 0, (0, 1, 3, 4), 1), ("write", 3, 2))
    boxes = tuple(("whole", 5, start) for start in (3, 0, 4, 4))
    return (boxes, ((0, 8, first), (0, 8, second)))


def breaks_by_3():
    """Who has anybody below goes in at once: of two hands the one, of three two."""
    return ((("whole", 2, 1),), (0, 3, (("look", "lower", 0, (), 3), ("look", "others", 0, (), 1), ("write", 0, 0))))


def never_seen():
    """Nobody ever sees the 0 by which it would go in; a pair can't tell that no third one makes it."""
    return ((("either", 2, 1),), (0, 3, (("look", "higher", 0, (1,), 3), ("look", "others", 0, (), 2), ("write", 0, 1))))


def large_for_3():
    """As never_seen, but its way for 3 is larger than is gone through."""
    rows = (("look", "others", 0, (1,), 8), ("write", 1, 1), ("write", 1, 2), ("write", 1, 3), ("write", 1, 4),
            ("write", 1, 2), ("look", "others", 0, (), 1), ("write", 0, 1))
    return ((("either", 2, 1), ("torn", 5, 0)), (0, 8, rows))


def large_and_broken():
    """All go in at once; its way for 3 is larger than is gone through."""
    return ((("torn", 5, 0),), (0, 1, tuple(("write", 0, number % 5) for number in range(8))))
