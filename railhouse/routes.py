"""Routes: the blocks that they claim, the points that they demand, and their clashes."""

from railhouse.errors import BadRoute, NoRoute
from railhouse.layout import is_point, opposite
from railhouse.ways import is_way


class RouteTable:
    """Routes over a layout, numbered in the order of their list."""

    def __init__(self, layout, ways, *, flank=True):
        for route in range(len(ways)):
            if len(ways[route]) < 2 or not is_way(layout, ways[route]):
                raise BadRoute(route)
        self.size = len(ways)
        self._ways = [list(way) for way in ways]
        self._claims = [_claims_of(layout, way) for way in self._ways]
        self._demands = [_demands_of(layout, way, flank) for way in self._ways]

    def route_way(self, route):
        """Return the way of the route."""
        check_route(self, route)
        return list(self._ways[route])

    def claims(self, route):
        """Return the blocks that the route claims, ascending."""
        check_route(self, route)
        return list(self._claims[route])

    def demands(self, route):
        """Return the demands of the route, ascending."""
        check_route(self, route)
        return list(self._demands[route])

    def clash(self, first, second):
        """Return what two routes cannot share, as `(kind, block, side)`, or None."""
        check_route(self, first)
        check_route(self, second)
        for block in self._claims[first]:
            if block in self._claims[second]:
                return ("block", block, "")
        wanted = {(block, side): branch for block, side, branch in self._demands[second]}
        for block, side, branch in self._demands[first]:
            if wanted.get((block, side), branch) != branch:
                return ("point", block, side)
        return None


def check_route(table, route):
    """Raise NoRoute if the table has no route with this number."""
    if route < 0 or route >= table.size:
        raise NoRoute(route)


def _claims_of(layout, way):
    return sorted([block for block in way[1:] if not layout.is_yard(block)])


def _demands_of(layout, way, flank):
    found = []
    for before, after in zip(way, way[1:]):
        found += pair_demands(layout, before, after, way, flank)
    return sorted(set(found))


def pair_demands(layout, before, after, on_way, flank):
    """Return the joint demands of two joined blocks and, if `flank` is True, their flank demands."""
    demands = joint_demands(layout, before, after)
    if flank:
        demands += flank_demands(layout, before, after, on_way)
    return demands


def joint_demands(layout, before, after):
    """Return the joint demands of two joined blocks, ascending."""
    side = "east" if before < after else "west"
    found = []
    if is_point(layout, before, side):
        found.append((before, side, after))
    if is_point(layout, after, opposite(side)):
        found.append((after, opposite(side), before))
    return sorted(found)


def flank_demands(layout, before, after, on_way):
    """Return the flank demands of two joined blocks, ascending; `on_way` lists all blocks on the way."""
    found = []
    for block, side, branch in joint_demands(layout, before, after):
        other = _other_branch(layout, block, side, branch)
        back = opposite(side)
        if is_point(layout, other, back):
            away = _other_branch(layout, other, back, block)
            if other not in on_way and away not in on_way:
                found.append((other, back, away))
    return sorted(found)


def _other_branch(layout, block, side, branch):
    """Return the branch of a point that is not the given one."""
    first, second = layout.branches(block, side)
    return second if branch == first else first
