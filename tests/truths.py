"""Whether claims are so, and papers of those that are, by slow searches alone; nothing here is the program's."""

import helper


def runs_to(way):
    """{standing come to: a shortest run to it}."""
    runs = {helper.start(way): ()}
    for standing in grown(runs):
        for step, behind in helper.steps(way, standing):
            runs.setdefault(behind, runs[standing] + (step,))
    return runs


def grown(found):
    """The keys of a dict, those with them that come into it meanwhile."""
    done = 0
    while done < len(found):
        for key in list(found)[done:]:
            done += 1
            yield key


def outside_hands(standing):
    return frozenset(hand for hand, spot in enumerate(standing[0]) if spot == 0)


def ring_there(way, bases, node, edge):
    """(base, fair ring) at one of the bases along such standings and steps, None where there is none.

    By the words of the document: all rings are gone through, with which hands have stepped and which stayed outside.
    """
    for base in bases:
        if node(base):
            ring = ring_at(way, base, node, edge)
            if ring is not None:
                return base, ring
    return None


def ring_at(way, base, node, edge):
    many = len(way[1])
    begin = (base, frozenset(), outside_hands(base))
    found = {begin: ()}
    waiting = [begin]
    while waiting:
        here = waiting.pop()
        standing, stepped, outside = here
        for (hand, told), behind in helper.steps(way, standing):
            if not node(behind) or not edge(standing, hand, behind):
                continue
            ring = found[here] + ((hand, told),)
            fresh = (behind, stepped | {hand}, outside & outside_hands(behind))
            if behind == base and len(fresh[1] | fresh[2]) == many:
                return ring
            if fresh not in found:
                found[fresh] = ring
                waiting.append(fresh)
    return None


def kept_ring(way, bases, hand):
    return ring_there(way, bases, lambda standing: helper.on_its_way(way, standing, hand), lambda *step: True)


def stuck_ring(way, bases):
    return ring_there(way, bases, lambda standing: any(standing[0]),
                      lambda ahead, hand, behind: not helper.comes_in(way, ahead, behind, hand))


def shortest_out_of_turn(way, far, hand, other):
    """How many steps a shortest run out of turn has, None where there is none."""
    return min([far[base] + len(on) for base, on in runs_out_of_turn(way, far, hand, other)], default=None)


def runs_out_of_turn(way, far, hand, other):
    """Of runs out of turn where they begin to be ones and how they go on from there.

    By the words of the document: from each standing in which the hand waits and the other is outside it is gone on
    along those in which the hand waits.
    """
    found = []
    for base in far:
        if helper.waits(way, base, hand) and helper.part(way, base, other) == "outside":
            on = {base: ()}
            for here in grown(on):
                if helper.part(way, here, other) == "within":
                    found.append((base, on[here]))
                for step, behind in helper.steps(way, here):
                    if helper.waits(way, behind, hand):
                        on.setdefault(behind, on[here] + (step,))
    return found


def waiting_edges(way, far, hand):
    """For each standing in which the hand waits a list of (step, 1 where another comes within, such one behind)."""
    edges = {}
    for standing in far:
        if helper.waits(way, standing, hand):
            edges[standing] = [((who, told), int(helper.comes_in(way, standing, behind, who)), behind)
                               for (who, told), behind in helper.steps(way, standing)
                               if helper.waits(way, behind, hand)]
    return edges


def goings(way, far, hand):
    """{standing in which the hand waits: the most goings-in from it on}, by trying longer and longer runs.

    None where more steps than standings still make it more.
    """
    edges = waiting_edges(way, far, hand)
    most = dict.fromkeys(edges, 0)
    for _ in range(len(edges) + 1):
        more = {here: max([0] + [goes + most[behind] for step, goes, behind in edges[here]]) for here in edges}
        if more == most:
            return most
        most = more
    return None


def greatest(way, far, hand):
    """The most goings-in, None where there is no greatest number."""
    most = goings(way, far, hand)
    return None if most is None else max(most.values(), default=0)


def is_so(claim, far):
    """Whether a claim of a way is so, whose distances are told."""
    word, way, *rest = claim
    if word in ("two", "never two"):
        return any(helper.within_count(way, standing) >= 2 for standing in far) == (word == "two")
    if word in ("kept out", "not kept out"):
        return (kept_ring(way, far, *rest) is not None) == (word == "kept out")
    if word in ("stuck", "not stuck"):
        return (stuck_ring(way, far) is not None) == (word == "stuck")
    if word in ("in turn", "out of turn"):
        return bool(runs_out_of_turn(way, far, *rest)) == (word == "out of turn")
    most = greatest(way, far, rest[0])
    if word == "endless":
        return most is None
    if word == "goings":
        return most is not None and most <= rest[1]
    return most is None or most >= rest[1]


def claims_of(way, numbers=(0, 1, 2, 3)):
    """All claims of a way, so or not, with such numbers."""
    found = [(word, way) for word in ("never two", "two", "not stuck", "stuck")]
    for hand in range(len(way[1])):
        found += [(word, way, hand) for word in ("not kept out", "kept out", "endless")]
        found += [(word, way, hand, number) for word in ("goings", "as many") for number in numbers]
        found += [(word, way, hand, other) for word in ("in turn", "out of turn")
                  for other in range(len(way[1])) if other != hand]
    return found


def reach(edges):
    """For each standing all to which the edges lead from it, itself with them."""
    found = {}
    for start in edges:
        there = {start: True}
        for here in grown(there):
            there.update((behind, True) for hand, behind in edges[here])
        found[start] = set(there)
    return found


def helper_marks(way, far, node, edge):
    """{such standing: (how many it leads to along such steps, a hand that has no step where these lead back)}."""
    edges = {}
    for standing in far:
        if node(standing):
            edges[standing] = [(hand, behind) for (hand, told), behind in helper.steps(way, standing)
                               if node(behind) and edge(standing, hand, behind)]
    there = reach(edges)
    marks = {}
    for standing in edges:
        knot = {here for here in there[standing] if standing in there[here]}
        stepping = {hand for here in knot for hand, behind in edges[here] if behind in knot}
        marks[standing] = (len(there[standing]),
                           max(hand for hand, spot in enumerate(standing[0]) if spot and hand not in stepping))
    return marks


def marked(far, marks):
    return tuple((standing, marks.get(standing)) for standing in sorted(far))


def rows_of_truths(way, hand, other):
    found = {(helper.start(way), False): True}
    for standing, truth in grown(found):
        for step, behind in helper.steps(way, standing):
            since = truth or helper.part(way, behind, other) == "outside"
            found[behind, since and helper.waits(way, behind, hand)] = True
    return tuple(sorted(found))


def as_many(way, far, hand, number):
    """(standing, run on from it) by which so many go in while the hand waits."""
    if number == 0:
        return helper.start(way), ()
    edges = waiting_edges(way, far, hand)
    found = {(standing, 0): (standing, ()) for standing in edges}
    for here, many in grown(found):
        base, on = found[here, many]
        for step, goes, behind in edges[here]:
            if many + goes == number:
                return base, on + (step,)
            found.setdefault((behind, many + goes), (base, on + (step,)))
    return None


def endless(way, far, hand):
    """(standing, ring at it) along which the hand waits and others come within."""
    edges = waiting_edges(way, far, hand)
    for base in edges:
        found = {(base, 0): ()}
        for here, gone in grown(found):
            for step, goes, behind in edges[here]:
                found.setdefault((behind, gone | goes), found[here, gone] + (step,))
        if (base, 1) in found:
            return base, found[base, 1]
    return None


def right_paper(claim, far):
    """A paper of a claim of a way that is so."""
    word, way, *rest = claim
    runs = runs_to(way)
    if word == "two":
        return min((runs[standing] for standing in far if helper.within_count(way, standing) >= 2), key=len)
    if word == "never two":
        return tuple(sorted(far))
    if word == "not kept out":
        return marked(far, helper_marks(way, far, lambda standing: helper.on_its_way(way, standing, *rest),
                                        lambda *step: True))
    if word == "not stuck":
        return marked(far, helper_marks(way, far, lambda standing: any(standing[0]),
                                        lambda ahead, hand, behind: not helper.comes_in(way, ahead, behind, hand)))
    if word == "in turn":
        return rows_of_truths(way, *rest)
    if word == "goings":
        return marked(far, goings(way, far, rest[0]))
    if word == "out of turn":
        base, on = runs_out_of_turn(way, far, *rest)[0]
        return runs[base] + on
    search = {"kept out": kept_ring, "stuck": stuck_ring, "as many": as_many, "endless": endless}[word]
    base, on = search(way, far, *rest)
    return runs[base], on
