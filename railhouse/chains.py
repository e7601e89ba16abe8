"""Chains: events each of which directly precedes the next one."""

from railhouse.plans import check_event, is_event


def chain(plan, first, second):
    """Return the least of the shortest chains from one event to another, or None."""
    check_event(plan, first)
    check_event(plan, second)
    return chain_without(plan, first, second, None)


def chain_without(plan, first, second, barred):
    """Return the least of the shortest chains that do not have the pair `barred` as neighbours, or None."""
    left = _steps_left(plan, second, barred)
    events = [first]
    while len(events) == 1 or events[-1] != second:
        found = [after for after in plan.afters(events[-1]) if after in left and (events[-1], after) != barred]
        if not found:
            return None
        events.append(min([(left[after], after) for after in found])[1])
    return events


def _steps_left(plan, goal, barred):
    """Return for each event from which the goal can be reached the least number of steps to it."""
    left = {goal: 0}
    reached = [goal]
    at = 0
    while at < len(reached):
        event = reached[at]
        for before in plan.befores(event):
            if before not in left and (before, event) != barred:
                left[before] = left[event] + 1
                reached.append(before)
        at += 1
    return left


def comes_before(plan, first, second):
    """Tell whether there is a chain from the first event to the second one."""
    return chain(plan, first, second) is not None


def is_chain(plan, events):
    """Tell whether the list is a chain of the plan."""
    if len(events) < 2 or not all([is_event(plan, event) for event in events]):
        return False
    return all([second in plan.afters(first) for first, second in zip(events, events[1:])])
