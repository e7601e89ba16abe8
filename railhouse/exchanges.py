"""Exchanges of two neighbours in the order of a block, and what they do to a plan."""

from railhouse.chains import chain_without
from railhouse.errors import NoPlace
from railhouse.plans import Plan, bounds_at, orders_of, trains_of
from railhouse.rings import check_alive, is_alive, standstill


def exchange(plan, block, place):
    """Return a new plan in which the trains at `place` and `place + 1` of the order of the block changed places."""
    x, y = neighbours(plan, block, place)
    orders = orders_of(plan)
    orders[block][place] = y
    orders[block][place + 1] = x
    return Plan(plan.layout, trains_of(plan), orders, turns=plan.turns())


def neighbours(plan, block, place):
    """Return the trains at `place` and `place + 1` of the order of the block."""
    order = plan.order(block)
    if place < 0 or place + 1 >= len(order):
        raise NoPlace(block, place)
    return order[place], order[place + 1]


def places_of(plan):
    """Return all pairs `(block, place)` that can be exchanged, ascending."""
    blocks = range(plan.layout.size)
    return [(block, place) for block in blocks for place in range(len(plan.order(block)) - 1)]


def barring_chain(plan, block, place):
    """Return the least of the shortest chains that make the exchange deadly, or None if it keeps the plan alive."""
    x, y = neighbours(plan, block, place)
    check_alive(plan)
    entry_of_x, release_of_x = bounds_at(plan, x, block)
    entry_of_y, release_of_y = bounds_at(plan, y, block)
    return chain_without(plan, (x, entry_of_x), (y, release_of_y), ((x, release_of_x), (y, entry_of_y)))


def mending(plan):
    """Return all pairs `(block, place)` whose exchange turns a dead plan into an alive one, ascending."""
    found = standstill(plan)
    if found is None:
        return []
    _, waits, ring = found
    # The trains of the ring go on waiting for each other unless the order of a block at which they wait changes.
    blocks = [block for train, _, block in waits if train in ring]
    pairs = [(block, place) for block, place in places_of(plan) if block in blocks]
    return [(block, place) for block, place in pairs if is_alive(exchange(plan, block, place))]


def needed(plan):
    """Return all pairs `(block, place)` that are not spare, ascending."""
    check_alive(plan)
    return [(block, place) for block, place in places_of(plan) if not _is_spare(plan, block, place)]


def _is_spare(plan, block, place):
    """Tell whether a chain without the direct step leads from the release of the first train to the second's entry."""
    x, y = neighbours(plan, block, place)
    release = (x, bounds_at(plan, x, block)[1])
    entry = (y, bounds_at(plan, y, block)[0])
    return chain_without(plan, release, entry, (release, entry)) is not None
