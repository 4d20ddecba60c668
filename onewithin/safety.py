"""Two within."""

from onewithin.searches import run_in
from onewithin.standings import how_many_within
from onewithin.tables import table_of
from onewithin.ways import check_way


def two_within(way):
    """A shortest run from the first standing to two hands or more within, or None."""
    check_way(way)
    table = table_of(way)
    for standing in table:
        if how_many_within(way, standing) >= 2:
            return run_in(table, standing)
    return None
