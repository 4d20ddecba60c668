"""Ways with all boxes of one kind."""

from onewithin.errors import NoKind
from onewithin.plain import is_word
from onewithin.ways import KINDS, check_way


def with_kind(way, kind):
    """The same way with all its boxes of this kind."""
    check_way(way)
    if not is_word(kind, KINDS):
        raise NoKind("no kind of box")
    boxes, hands = way
    changed = tuple([(kind, size, start) for was, size, start in boxes]), hands
    check_way(changed)
    return changed
