"""Rings of two: two trains of a plan on a single way that wait for each other."""

from railhouse.errors import NotSingle
from railhouse.plans import bounds_at


def two_ring(plan):
    """Return the least `(x, y, a, b)` of which each train waits at one of the blocks for the other, or None."""
    _check_single(plan)
    for x in range(plan.size):
        for y in range(x + 1, plan.size):
            blocks = _ring_of(plan, x, y)
            if blocks is not None:
                return (x, y, *blocks)
    return None


def _check_single(plan):
    layout = plan.layout
    for block in range(layout.size):
        if len(layout.east_of(block)) > 1 or len(layout.west_of(block)) > 1:
            raise NotSingle()
    if plan.turns():
        raise NotSingle()


def _ring_of(plan, x, y):
    """Return the least blocks `(a, b)` at which the two trains form a ring of two, or None."""
    shared = [block for block in sorted(plan.train_of(x).blocks()) if y in plan.order(block)]
    stays_of_x = {block: bounds_at(plan, x, block) for block in shared}
    stays_of_y = {block: bounds_at(plan, y, block) for block in shared}
    ahead = [block for block in shared if plan.order(block).index(x) < plan.order(block).index(y)]
    behind = [block for block in shared if block not in ahead]
    for a in ahead:
        for b in behind:
            if _keeps(stays_of_x, a, b) and _keeps(stays_of_y, b, a):
                return a, b
    return None


def _keeps(stays, held, wanted):
    """Tell whether a train with these stays still holds the one block when it enters the other one."""
    return stays[wanted][0] < stays[held][1]
