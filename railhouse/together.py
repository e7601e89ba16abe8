"""Stays of a plan that are open at once."""

from railhouse.errors import NeverAtOnce
from railhouse.pasts import driving_to, pasts, precedes
from railhouse.plans import check_step
from railhouse.rings import check_alive


def at_once(plan, stays):
    """Return a driving that obeys the plan and ends at a moment at which all the stays are open."""
    for train, step in stays:
        check_step(plan, train, step)
    check_alive(plan)
    past = pasts(plan)
    entries = [(train, plan.stay(train, step)[0]) for train, step in stays]
    _check_together(plan, past, sorted(set(stays)))
    return driving_to(plan, past, entries)


def _check_together(plan, past, stays):
    """Raise NeverAtOnce for the least pair of stays of which the first one ends before the second one begins."""
    for first in stays:
        train, step = first
        release = (train, plan.stay(train, step)[1])
        for second in stays:
            other, later = second
            if precedes(past, release, (other, plan.stay(other, later)[0])):
                raise NeverAtOnce(first, second)
