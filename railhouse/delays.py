"""Delays: how late an event can be if a few runs take longer, and how far one longer run reaches."""

from railhouse.plans import check_event, check_step
from railhouse.rings import events_of, run_out


def worst(clock, event, count):
    """Return the greatest time of the event with at most `count` delayed runs, a chain to it, and these runs."""
    check_event(clock.plan, event)
    # Each run has two events of its own.
    most = min(count, clock.plan.total // 2)
    greatest = _greatest_times(clock, most)
    chain = [event]
    delayed = []
    left = most
    while not _is_first(clock, greatest, chain[-1], left):
        before, left_before = _step_back(clock, greatest, chain[-1], left)
        if left_before < left:
            delayed.append((before[0], before[1] // 2))
        chain.append(before)
        left = left_before
    return greatest[event][most], chain[::-1], sorted(delayed)


def _greatest_times(clock, most):
    """Return for each event its greatest times with at most 0, 1, .., `most` delayed runs."""
    greatest = {}
    for event in events_of(run_out(clock.plan)):
        train, number = event
        best = [clock.start_of(train) if number == 0 else 0] * (most + 1)
        for before, low, high in _moves(clock, event):
            times = greatest[before]
            best = [max(pair) for pair in zip(best, [time + low for time in times])]
            if high > low:
                best = best[:1] + [max(pair) for pair in zip(best[1:], [time + high for time in times])]
        greatest[event] = best
    return greatest


def _moves(clock, event):
    """Return `(before, low, high)` for each directly preceding event, with the gap under all lows and all highs."""
    befores = clock.plan.befores(event)
    return [(before, clock.gap(before, event), clock.gap(before, event, late=True)) for before in befores]


def _is_first(clock, greatest, event, left):
    train, number = event
    return number == 0 and greatest[event][left] == clock.start_of(train)


def _step_back(clock, greatest, event, left):
    """Return a directly preceding event that explains the greatest time, and how many delays are left there."""
    time = greatest[event][left]
    found = []
    for before, low, high in _moves(clock, event):
        if greatest[before][left] + low == time:
            found.append((before, left))
        if high > low and left > 0 and greatest[before][left - 1] + high == time:
            found.append((before, left - 1))
    return found[0]


def reach(clock, train, step, amount):
    """Return `(train, number, shift)` for each event that is later if the run takes `amount` more than its low."""
    check_step(clock.plan, train, step)
    running = clock.choice()
    times = clock.times()
    running[train][step] += amount
    shifted = clock.times_under(running)
    found = []
    for other in range(len(times)):
        for number in range(len(times[other])):
            if shifted[other][number] > times[other][number]:
                found.append((other, number, shifted[other][number] - times[other][number]))
    return found
