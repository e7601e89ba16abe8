"""Turns of a clock's plan, made from the workings that its trains are."""

from railhouse.plans import Plan, orders_of, trains_of
from railhouse.stock import link


def clock_workings(clock):
    """Return one working for each train of the clock's plan, under all lows."""
    times = clock.times()
    found = []
    for train in range(clock.plan.size):
        way = clock.plan.train_of(train).blocks()
        found.append((way[0], way[-1], times[train][0], times[train][-1]))
    return found


def clock_turns(clock):
    """Return the links of the clock's workings that lead through a yard, ascending."""
    workings = clock_workings(clock)
    links = link(workings, turning=clock.turning)
    return [(first, second) for first, second in links if clock.plan.layout.is_yard(workings[first][1])]


def with_turns(plan, turns):
    """Return a plan that has these turns in the place of its own ones."""
    return Plan(plan.layout, trains_of(plan), orders_of(plan), turns=turns)
