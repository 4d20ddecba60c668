"""The desk: it keeps ways by names and answers rows."""

from onewithin.alone import alone
from onewithin.checker import holds
from onewithin.errors import NoCall, NoKept
from onewithin.kinds import with_kind
from onewithin.known import known_way
from onewithin.papers import paper_goings, paper_kept, paper_stuck, paper_turn, paper_two
from onewithin.tables import all_standings
from onewithin.waytexts import read_way, show_way

# For each first word of a row what its other words are.
ROWS = {
    "way": ("name", "text"),
    "known": ("name", "word", "figure"),
    "kind": ("name", "word"),
    "show": ("name",),
    "count": ("name",),
    "two": ("name",),
    "kept": ("name", "figure"),
    "stuck": ("name",),
    "turn": ("name", "figure", "figure"),
    "goings": ("name", "figure"),
    "alone": ("name", "figure"),
    "paper": (),
}


class Desk:
    """Ways kept by names, and what was claimed by the last answer that has a paper."""

    def __init__(self):
        self.ways = {}
        self.claimed = None

    def say(self, row):
        """The answer to a row, a text."""
        word, *rest = words_of(row)
        if word == "paper":
            return verdict(self.claimed)
        name, *rest = rest
        if word == "way":
            return self.keep(name, read_way(rest[0].replace("; ", "\n")))
        if word == "known":
            return self.keep(name, known_way(rest[0], int(rest[1])))
        if name not in self.ways:
            raise NoKept(name)
        way = self.ways[name]
        if word == "kind":
            return self.keep(name, with_kind(way, rest[0]))
        hands = [int(figure) for figure in rest]
        if word in PLAIN:
            tell = PLAIN[word]
            return tell(way, *hands)
        claim = CLAIMED[word]
        claimed, answer = claim(way, *hands)
        self.claimed = claimed
        return answer

    def keep(self, name, way):
        self.ways[name] = way
        return "ok"


def words_of(row):
    """The words of a row, the text of a way as one; NoCall of what is no row."""
    if not isinstance(row, str) or "\n" in row:
        raise NoCall(row)
    words = row.split(" ", 2) if row.startswith("way ") else row.split(" ")
    if words[0] not in ROWS or len(words) != len(ROWS[words[0]]) + 1:
        raise NoCall(row)
    if not all([is_word_of(kind, word) for kind, word in zip(ROWS[words[0]], words[1:])]):
        raise NoCall(row)
    return words


def is_word_of(kind, word):
    """True where the word is one of its kind."""
    if kind == "name":
        return 1 <= len(word) <= 8 and all([sign in "abcdefghijklmnopqrstuvwxyz" for sign in word])
    if kind == "figure":
        return len(word) == 1 and word in "0123456789"
    return kind == "text" or word != ""


def verdict(claimed):
    """What the checker says of the claims and papers of an answer, None of no answer."""
    if claimed is None:
        return "none"
    return "holds" if all([holds(claim, paper) for claim, paper in claimed]) else "no"


def tell_show(way):
    return show_way(way).replace("\n", "; ")


def tell_count(way):
    return str(len(all_standings(way)))


def tell_alone(way, hand):
    return " ".join(["-" if many is None else str(many) for many in alone(way, hand)])


def claim_two(way):
    """(claims with papers, answer), as all that follow."""
    told = paper_two(way)
    return (told,), steps_or_never(told, "two")


def claim_kept(way, hand):
    told = paper_kept(way, hand)
    return (told,), word_or_never(told, "kept out")


def claim_stuck(way):
    told = paper_stuck(way)
    return (told,), word_or_never(told, "stuck")


def claim_turn(way, hand, other):
    told = paper_turn(way, hand, other)
    return (told,), steps_or_never(told, "out of turn")


def claim_goings(way, hand):
    told = paper_goings(way, hand)
    claim = told[0][0]
    return told, "endless" if claim[0] == "endless" else str(claim[3])


def steps_or_never(told, word):
    """How many steps the run has that is the paper of a claim of this word, else never."""
    claim, paper = told
    return str(len(paper)) if claim[0] == word else "never"


def word_or_never(told, word):
    return word if told[0][0] == word else "never"


PLAIN = {"show": tell_show, "count": tell_count, "alone": tell_alone}
CLAIMED = {
    "two": claim_two,
    "kept": claim_kept,
    "stuck": claim_stuck,
    "turn": claim_turn,
    "goings": claim_goings,
}
