"""Ways over the layout: headings, lengths, distances and the ways between two blocks."""

from railhouse.errors import BadWay, NoWay, RailError
from railhouse.layout import check_block, check_blocks


def heading(layout, way):
    """Return the heading of the way, "east" or "west"."""
    if len(way) == 0:
        raise BadWay(0)
    check_blocks(layout, way)
    if len(way) == 1:
        return "east"
    side = "west" if layout.joined(way[1], way[0]) else "east"
    at = first_break(layout, way, side)
    if at is not None:
        raise BadWay(at)
    return side


def first_break(layout, blocks, side):
    """Return the least index whose entry is not joined on this side to the next entry, or None."""
    for at in range(len(blocks) - 1):
        if blocks[at + 1] not in layout.branches(blocks[at], side):
            return at
    return None


def is_way(layout, blocks):
    """Tell whether the list is a way of the layout."""
    try:
        heading(layout, blocks)
    except RailError:
        return False
    return True


def way_length(layout, way):
    """Return the sum of the lengths of the blocks of the way."""
    heading(layout, way)
    return sum([layout.length_of(block) for block in way])


def distances(layout, start):
    """Return for each block the least length of a way from `start` to it, or None."""
    check_block(layout, start)
    found = [None] * layout.size
    found[start] = layout.length_of(start)
    for block in range(start + 1, layout.size):
        _add_distance(layout, found, block, [west for west in layout.west_of(block) if west >= start])
    for block in range(start - 1, -1, -1):
        _add_distance(layout, found, block, [east for east in layout.east_of(block) if east <= start])
    return found


def _add_distance(layout, found, block, before):
    reached = [found[other] for other in before if found[other] is not None]
    if reached:
        found[block] = min(reached) + layout.length_of(block)


def least_way(layout, start, goal):
    """Return the least of the shortest ways from `start` to `goal`."""
    check_block(layout, start)
    left = distances(layout, goal)
    if left[start] is None:
        raise NoWay(start, goal)
    way = [start]
    while way[-1] != goal:
        way.append(_least_next(layout, way[-1], goal, left))
    return way


def _least_next(layout, block, goal, left):
    rest = left[block] - layout.length_of(block)
    return min([other for other in _toward(layout, block, goal) if left[other] == rest])


def _toward(layout, block, goal):
    """Return the next blocks in the direction of the goal that do not lie beyond it, ascending."""
    if block < goal:
        return [other for other in layout.east_of(block) if other <= goal]
    return [other for other in layout.west_of(block) if other >= goal]


def count_ways(layout, start, goal):
    """Return the number of ways from `start` to `goal`."""
    return _counts(layout, start, goal)[start]


def _counts(layout, start, goal):
    """Return the numbers of ways to the goal from the blocks between it and `start`, both included."""
    check_block(layout, start)
    check_block(layout, goal)
    counts = [0] * layout.size
    counts[goal] = 1
    back = -1 if start < goal else 1
    for block in range(goal + back, start + back, back):
        counts[block] = sum([counts[other] for other in _toward(layout, block, goal)])
    return counts


def each_way(layout, start, goal):
    """Yield every way from `start` to `goal`, in ascending order."""
    counts = _counts(layout, start, goal)
    # The least way stands last. Only blocks that lead to the goal are tried, so no work is in vain.
    begun = [[start]]
    while begun:
        way = begun.pop()
        if way[-1] == goal:
            yield way
        else:
            blocks = [block for block in _toward(layout, way[-1], goal) if counts[block] > 0]
            for block in reversed(blocks):
                begun.append(way + [block])
