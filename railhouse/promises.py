"""Promises: the latest times of some arrivals, and which of them are broken."""

from railhouse.plans import check_step
from railhouse.rings import events_of, run_out


def broken(clock, promises, *, late=True):
    """Return `(index, lateness)` for each promise that is broken, ascending."""
    found = latenesses(clock.plan, clock.times(late=late), promises)
    return [(at, found[at]) for at in range(len(found)) if found[at] > 0]


def greatest_lateness(clock, promises, *, late=True):
    """Return the greatest lateness of all promises, 0 if there are none."""
    return max(latenesses(clock.plan, clock.times(late=late), promises), default=0)


def latest_times(clock, promises, *, late=True):
    """Return for each event the latest time at which no promise is broken by it, or None."""
    check_promises(clock.plan, promises)
    plan = clock.plan
    found = [[None] * (plan.train_of(train).last + 1) for train in range(plan.size)]
    for train, step, latest in promises:
        found[train][2 * step + 1] = _lesser(found[train][2 * step + 1], latest)
    for event in reversed(events_of(run_out(plan))):
        train, number = event
        for after in plan.afters(event):
            limit = found[after[0]][after[1]]
            if limit is not None:
                found[train][number] = _lesser(found[train][number], limit - clock.gap(event, after, late=late))
    return found


def harmless(clock, promises, train, step):
    """Return the greatest delay of the run that breaks no promise, None for any delay, or -1 for none."""
    check_step(clock.plan, train, step)
    if broken(clock, promises, late=False):
        return -1
    limit = latest_times(clock, promises, late=False)[train][2 * step + 1]
    if limit is None:
        return None
    # The arrival follows from the entry alone, and the run does not change when the entry is.
    return limit - clock.times()[train][2 * step + 1]


def check_promises(plan, promises):
    """Raise NoTrain or NoStep for the first promise whose step does not exist."""
    for train, step, _ in promises:
        check_step(plan, train, step)


def latenesses(plan, times, promises):
    """Return the lateness of each promise; `times` has the times of all events."""
    check_promises(plan, promises)
    return [times[train][2 * step + 1] - latest for train, step, latest in promises]


def _lesser(limit, number):
    """Return the lesser of a limit and a number; the limit may be None."""
    return number if limit is None else min(limit, number)
