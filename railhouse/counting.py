"""How many tables without faults a single line has, and which these are."""

from railhouse.errors import TooMany

TABLE_LIMIT = 200


def count_tables(line):
    """Return the number of tables without faults."""
    # For each row the number of tables that end with it, without the rows below.
    counts = {_top_row(line): 1}
    for east in range(line.eastbound):
        found = {}
        for row in _rows(line, east):
            found[row] = sum([counts[above] for above in counts if _may_follow(above, row)])
        counts = found
    return sum(list(counts.values()))


def all_tables(line):
    """Return all tables without faults, ascending."""
    number = count_tables(line)
    if number > TABLE_LIMIT:
        raise TooMany(number, TABLE_LIMIT)
    tables = [[_top_row(line)]]
    for east in range(line.eastbound):
        rows = _rows(line, east)
        tables = [[*table, row] for table in tables for row in rows if _may_follow(table[-1], row)]
    return [[list(row) for row in table[1:]] for table in tables]


def _top_row(line):
    """Return a row below which every row may stand; no table contains it as its first one."""
    return (line.sections,) * line.westbound


def _rows(line, east):
    """Return, ascending, all rows that the eastbound train may have, whatever stands above them."""
    rows = [()]
    for west in range(line.westbound):
        yards = [yard for yard in range(line.sections + 1) if line.can_meet(east, west, yard)]
        rows = [(*row, yard) for row in rows for yard in yards if yard >= max(row, default=0)]
    return rows


def _may_follow(above, row):
    """Tell whether the row may stand directly below the other one."""
    return all([lower <= upper for upper, lower in zip(above, row)])
