"""Clocks by chance, and what [47] to [52] say of times, word by word."""

import random
from copy import copy
from itertools import combinations, product

from railhouse.clock import Clock
from railhouse.spans import Span
from railhouse.trains import releases
from tests.plain_plans import ALIVE, all_events, busy_plan, plain_run_out

# The clock of the examples of the interface.
RUNS = [[Span(5, 6)] * 5, [Span(5, 6)] * 5]
DWELLS = [[1] * 5, [1] * 5]
CLOCK = Clock(ALIVE, RUNS, DWELLS, clearing=2)


class Terms:
    """What a clock by chance was created with, and what follows from it by slow means."""

    def __init__(self, plan, seed, widest=3):
        chance = random.Random(seed)
        steps = [plan.train_of(train).steps for train in range(plan.size)]
        self.plan = plan
        self.seed = seed
        self.runs = [[self.chance_span(chance, widest) for _ in range(many)] for many in steps]
        self.dwells = [[chance.randint(0, 3) for _ in range(many)] for many in steps]
        self.starts = [chance.randint(0, 9) for _ in steps] if chance.random() < 0.6 else []
        self.clearing = chance.randint(0, 2)
        self.turning = chance.randint(0, 4)
        self.clock = Clock(plan, self.runs, self.dwells, starts=self.starts, clearing=self.clearing,
                           turning=self.turning)

    def chance_span(self, chance, widest):
        low = chance.randint(1, 6)
        return Span(low, low + chance.randint(0, widest))

    def restarted(self, starts):
        """Return the same terms with other starts."""
        other = copy(self)
        other.starts = starts
        other.clock = Clock(self.plan, self.runs, self.dwells, starts=starts, clearing=self.clearing,
                            turning=self.turning)
        return other

    def start(self, train):
        return self.starts[train] if self.starts else 0

    def picked(self, late):
        return [[run.high if late else run.low for run in row] for row in self.runs]

    def gaps(self, running):
        """Return the gap of each pair of events of which the first one directly precedes the second one."""
        plan, found = self.plan, {}
        for train in range(plan.size):
            for step in range(plan.train_of(train).steps):
                found[((train, 2 * step), (train, 2 * step + 1))] = running[train][step]
                found[((train, 2 * step + 1), (train, 2 * step + 2))] = self.dwells[train][step]
        for block in range(plan.layout.size):
            order = plan.order(block)
            for x, y in zip(order, order[1:]):
                release = releases(plan.layout, plan.train_of(x))[plan.train_of(x).blocks().index(block)]
                found[((x, release), (y, 2 * plan.train_of(y).blocks().index(block)))] = self.clearing
        for x, y in plan.turns():
            found[((x, plan.train_of(x).last), (y, 0))] = self.turning
        return found

    def times(self, running):
        """Return the times of all events, raised from 0 until each is as great as [47] asks."""
        gaps, times = self.gaps(running), {event: 0 for event in all_events(self.plan)}
        for train in range(self.plan.size):
            times[(train, 0)] = self.start(train)
        changed = True
        while changed:
            changed = False
            for (first, second), gap in gaps.items():
                if times[first] + gap > times[second]:
                    times[second] = times[first] + gap
                    changed = True
        return times

    def rows(self, running):
        """Return the times as a list for each train."""
        times = self.times(running)
        return [[times[(train, number)] for number in range(self.plan.train_of(train).last + 1)]
                for train in range(self.plan.size)]

    def longest(self, running, goal):
        """Return for each event that comes before the goal, and for it, the greatest length of a chain to it."""
        found, changed, gaps = {goal: 0}, True, self.gaps(running)
        while changed:
            changed = False
            for (first, second), gap in gaps.items():
                if second in found and found[second] + gap > found.get(first, -1):
                    found[first] = found[second] + gap
                    changed = True
        return found

    def all_steps(self):
        return [(train, step) for train, row in enumerate(self.runs) for step in range(len(row))]

    def choices(self, chance, many):
        """Return some choices: all lows, all highs, and others by chance."""
        rows = [[[chance.randint(run.low, run.high) for run in row] for row in self.runs] for _ in range(many)]
        return [self.picked(False), self.picked(True)] + rows

    def all_choices(self):
        """Return every choice of lows and highs."""
        steps, found = self.all_steps(), []
        for late in product((False, True), repeat=len(steps)):
            found.append(self.delayed([step for step, high in zip(steps, late) if high]))
        return found

    def delayed(self, steps):
        """Return the choice in which these runs take their highs, and the others their lows."""
        return [[run.high if (train, step) in steps else run.low for step, run in enumerate(row)]
                for train, row in enumerate(self.runs)]

    def few_delays(self, count):
        """Return every list of at most `count` runs."""
        steps = self.all_steps()
        return [list(some) for many in range(min(count, len(steps)) + 1) for some in combinations(steps, many)]

    def promises(self, chance, many):
        """Return promises near the times under all lows."""
        times, found = self.times(self.picked(False)), []
        for _ in range(many):
            train, step = chance.choice(self.all_steps())
            found.append((train, step, max(0, times[(train, 2 * step + 1)] + chance.randint(-1, 6))))
        return found


def busy_terms(count, many=3, size=5, widest=3):
    """Return the terms of clocks over the first busy plans that are alive."""
    found, seed = [], 0
    while len(found) < count:
        seed += 1
        plan = busy_plan(seed, many - seed % 2, size)
        if len(plain_run_out(plan)) == plan.total:
            found.append(Terms(plan, seed, widest))
    return found
