"""Tables of a single line: in which yard each two trains of unlike directions meet."""

from railhouse.errors import BadTable, NoTable, TableFault
from railhouse.plans import Plan


def first_fault(line, table):
    """Return the first fault of the table as `(kind, east, west)`, or None."""
    _check_table(line, table)
    faults = _faults(line, table)
    return faults[0] if faults else None


def line_orders(line, table):
    """Return for each block the trains in the order in which they take it."""
    _check_table(line, table)
    for kind, east, west in _faults(line, table):
        if kind != "fit":
            raise TableFault(kind, east, west)
    orders = [[] for _ in range(line.layout.size)]
    for section in range(1, line.sections + 1):
        orders[2 * section - 1] = _order(line, table, section)
    return orders


def line_plan(line, table):
    """Return the plan in which the trains meet as the table says."""
    return Plan(line.layout, line.trains(), line_orders(line, table))


def table_of(line, plan):
    """Return the table whose plan has the same order of each eastbound and each westbound train."""
    table = []
    for east in range(line.eastbound):
        table.append([_meeting(line, plan, east, west) for west in range(line.westbound)])
    return table


def _check_table(line, table):
    """Raise BadTable for the least pair at which the table has not the form that the line asks for."""
    for east in range(line.eastbound):
        if east >= len(table):
            raise BadTable(east, 0)
        _check_row(line, table[east], east)
    if len(table) > line.eastbound:
        raise BadTable(line.eastbound, 0)


def _check_row(line, row, east):
    for west in range(line.westbound):
        if west >= len(row) or not 0 <= row[west] <= line.sections:
            raise BadTable(east, west)
    if len(row) > line.westbound:
        raise BadTable(east, line.westbound)


def _faults(line, table):
    """Return all faults, the first one first."""
    pairs = [(east, west) for east in range(line.eastbound) for west in range(line.westbound)]
    return [(kind, east, west) for east, west in pairs for kind in _kinds(line, table, east, west)]


def _kinds(line, table, east, west):
    """Return the kinds of the faults at one entry."""
    yard = table[east][west]
    kinds = []
    if east > 0 and yard > table[east - 1][west]:
        kinds.append("east")
    if west > 0 and yard < table[east][west - 1]:
        kinds.append("west")
    if not line.can_meet(east, west, yard):
        kinds.append("fit")
    return kinds


def _order(line, table, section):
    """Return the trains in the order in which they take the section."""
    # The place of a train in the order is the number of trains that go before it.
    places = []
    for east in range(line.eastbound):
        ahead = [yard for yard in table[east] if yard < section]
        places.append((east + len(ahead), east))
    for west in range(line.westbound):
        ahead = [row for row in table if row[west] >= section]
        places.append((west + len(ahead), line.eastbound + west))
    return [train for _, train in sorted(places)]


def _meeting(line, plan, east, west):
    """Return the number of sections that the eastbound train takes before the westbound one."""
    firsts = []
    for section in range(1, line.sections + 1):
        order = plan.order(2 * section - 1)
        firsts.append(order.index(east) < order.index(line.eastbound + west))
    many = firsts.count(True)
    if not all(firsts[:many]):
        raise NoTable(east, west)
    return many
