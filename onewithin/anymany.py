"""What holds of a template for any many of hands."""

from onewithin.pairs import all_pairs, are_both_within
from onewithin.safety import two_within
from onewithin.templates import way_for


def for_any(template):
    """("every",), ("breaks", many, run) or ("open",): whether two are within for any many of hands, 2 or 3 tried."""
    if not any([are_both_within(template, pair) for pair in all_pairs(template)]):
        return ("every",)
    for many in (2, 3):
        run = two_within(way_for(template, many))
        if run is not None:
            return "breaks", many, run
    return ("open",)
