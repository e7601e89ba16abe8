"""The past of each event of an alive plan: how many events of each train come before it."""

from railhouse.rings import events_of, run_out


def pasts(plan):
    """Return for each event of an alive plan how many events of each train come before it."""
    found = {}
    for event in events_of(run_out(plan)):
        befores = plan.befores(event)
        found[event] = _joined(plan, befores, [found[before] for before in befores])
    return found


def _joined(plan, events, earlier):
    """Return how many events of each train are one of the events, or come before one of them."""
    # The events of a train happen in their order, so the greatest number tells all.
    counts = [max(column) for column in zip(*earlier)] or [0] * plan.size
    for train, number in events:
        counts[train] = max(counts[train], number + 1)
    return counts


def precedes(past, first, second):
    """Tell whether the first event comes before the second one."""
    train, number = first
    return number < past[second][train]


def driving_to(plan, past, events):
    """Return the steps of run_out whose events are among the events or come before one of them."""
    needs = _joined(plan, events, [past[event] for event in events])
    return [train for train, number in events_of(run_out(plan)) if number < needs[train]]
