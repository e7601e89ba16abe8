"""Ways side by side, and the blocks that cut all ways from starts to goals."""

from railhouse.layout import check_blocks


def side_by_side(layout, starts, goals):
    """Return a greatest list of ways that are apart, and the smallest cut that is nearest to the starts."""
    check_blocks(layout, starts)
    check_blocks(layout, goals)
    room = _network(layout, starts, goals)
    came = _search(room, _source(layout))
    while _sink(layout) in came:
        _push(room, came, _sink(layout))
        came = _search(room, _source(layout))
    taken = [start for start in sorted(set(starts)) if room[_into(start)][_source(layout)] > 0]
    ways = [_way_from(layout, room, start) for start in taken]
    # A block is in the nearest cut if the search comes into it and not through it.
    cut = [block for block in range(layout.size) if _into(block) in came and _out_of(block) not in came]
    return ways, cut


def _into(block):
    return 2 * block


def _out_of(block):
    return 2 * block + 1


def _source(layout):
    return 2 * layout.size


def _sink(layout):
    return 2 * layout.size + 1


def _network(layout, starts, goals):
    """Return the room between the nodes of a flow: one way goes through a block, any number through a joint."""
    room = {node: {} for node in range(2 * layout.size + 2)}
    plenty = layout.size + 1
    for start in starts:
        _add_room(room, _source(layout), _into(start), plenty)
    for block in range(layout.size):
        _add_room(room, _into(block), _out_of(block), 1)
        for east in layout.east_of(block):
            _add_room(room, _out_of(block), _into(east), plenty)
    for goal in goals:
        _add_room(room, _out_of(goal), _sink(layout), plenty)
    return room


def _add_room(room, first, second, amount):
    room[first][second] = amount
    room[second][first] = 0


def _search(room, source):
    """Return, for each node that can be reached through nodes with room, the node before it."""
    came = {source: source}
    waiting = [source]
    while waiting:
        node = waiting.pop()
        for other in room[node]:
            if room[node][other] > 0 and other not in came:
                came[other] = node
                waiting.append(other)
    return came


def _push(room, came, sink):
    node = sink
    while came[node] != node:
        before = came[node]
        room[before][node] -= 1
        room[node][before] += 1
        node = before


def _way_from(layout, room, start):
    """Return the way that the flow takes from the start."""
    way = [start]
    while room[_sink(layout)].get(_out_of(way[-1]), 0) == 0:
        for east in layout.east_of(way[-1]):
            if room[_into(east)][_out_of(way[-1])] > 0:
                way.append(east)
                break
    return way


def is_cut(layout, starts, goals, closed):
    """Tell whether every eastward way from a start to a goal contains a closed block."""
    check_blocks(layout, starts)
    check_blocks(layout, goals)
    check_blocks(layout, closed)
    reached = [False] * layout.size
    for block in range(layout.size):
        entered = block in starts or any([reached[west] for west in layout.west_of(block)])
        reached[block] = entered and block not in closed
    return not any([reached[goal] for goal in goals])


def are_apart(ways):
    """Tell whether no block stands twice in the ways."""
    blocks = [block for way in ways for block in way]
    return len(set(blocks)) == len(blocks)
