"""Which table a single line should take, by the promises that its plan keeps."""

from railhouse.clock import Clock
from railhouse.counting import all_tables
from railhouse.promises import greatest_lateness
from railhouse.tables import line_plan


def keeping_tables(line, runs, dwells, promises, *, starts=(), clearing=0):
    """Return all tables without faults under which every promise is kept for every choice, ascending."""
    found = _latenesses(line, runs, dwells, promises, starts, clearing)
    return [table for lateness, table in found if lateness <= 0]


def best_table(line, runs, dwells, promises, *, starts=(), clearing=0):
    """Return the table without faults that is the least late under all highs, and its greatest lateness."""
    lateness, table = min(_latenesses(line, runs, dwells, promises, starts, clearing))
    return table, lateness


def _latenesses(line, runs, dwells, promises, starts, clearing):
    """Return `(lateness, table)` for each table without faults: its greatest lateness under all highs."""
    found = []
    for table in all_tables(line):
        clock = Clock(line_plan(line, table), runs, dwells, starts=starts, clearing=clearing)
        found.append((greatest_lateness(clock, promises), table))
    return found
