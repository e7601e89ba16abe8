"""The clock: running times, dwells and other gaps of an alive plan, and the times of its events."""

from railhouse.errors import BadTimes, NoGap, OutOfSpan
from railhouse.plans import check_event, check_step
from railhouse.rings import check_alive, events_of, run_out
from railhouse.spans import Span


class Clock:
    """An alive plan with a span of running times and a dwell for each step, and a start for each train."""

    def __init__(self, plan, runs, dwells, *, starts=(), clearing=0, turning=0):
        check_alive(plan)
        _check_times(plan, runs, dwells, starts)
        self.plan = plan
        self.clearing = clearing
        self.turning = turning
        self._runs = [list(row) for row in runs]
        self._dwells = [list(row) for row in dwells]
        self._starts = list(starts)
        # The events in an order in which each one stands behind those that directly precede it.
        self._events = events_of(run_out(plan))
        self._waits = {event: self._waits_of(event) for event in self._events}

    def times(self, *, late=False):
        """Return the times of all events under all lows, or under all highs."""
        return self.times_under(self.choice(late=late))

    def times_with(self, choice):
        """Return the times of all events under the running times of a choice."""
        _check_choice(self, choice)
        return self.times_under(choice)

    def times_under(self, running):
        """Return the times of all events under running times that need not lie in their spans."""
        times = [[] for _ in self._runs]
        for event in self._events:
            times[event[0]].append(self.time_under(running, times, event))
        return times

    def time_under(self, running, times, event):
        """Return the time of an event under running times, from the times of the events before it."""
        train, number = event
        found = [times[other][earlier] + gap for other, earlier, gap in self._waits[event]]
        if number == 0:
            found.append(self.start_of(train))
        elif number % 2 == 0:
            found.append(times[train][-1] + self._dwells[train][number // 2 - 1])
        else:
            found.append(times[train][-1] + running[train][number // 2])
        return max(found)

    def choice(self, *, late=False):
        """Return the choice of all lows, or of all highs."""
        return [[run.high if late else run.low for run in row] for row in self._runs]

    def start_of(self, train):
        """Return the start of the train."""
        return self._starts[train] if self._starts else 0

    def span(self, train, number):
        """Return the span from the time of the event under all lows to its time under all highs."""
        check_event(self.plan, (train, number))
        return Span(self.times()[train][number], self.times(late=True)[train][number])

    def run_span(self, train, step):
        """Return the span of the running time of the step."""
        check_step(self.plan, train, step)
        return self._runs[train][step]

    def over(self, plan):
        """Return a clock over another plan with the same other arguments."""
        return Clock(
            plan, self._runs, self._dwells, starts=self._starts, clearing=self.clearing, turning=self.turning,
        )

    def gap(self, first, second, *, late=False):
        """Return the gap between two events under all lows, or under all highs."""
        check_event(self.plan, first)
        check_event(self.plan, second)
        if first not in self.plan.befores(second):
            raise NoGap(first, second)
        train, number = first
        if train != second[0]:
            return self._gap_between(first, second)
        if number % 2 == 1:
            return self._dwells[train][number // 2]
        run = self._runs[train][number // 2]
        return run.high if late else run.low

    def _waits_of(self, event):
        """Return `(train, number, gap)` for each event of another train that directly precedes the event."""
        found = []
        for before in self.plan.befores(event):
            other, earlier = before
            if other != event[0]:
                found.append((other, earlier, self._gap_between(before, event)))
        return found

    def _gap_between(self, first, second):
        """Return the gap between events of two trains."""
        # A turn leads into a yard, and no order does; so a turn of the two trains tells the kind of the gap.
        if second[1] == 0 and (first[0], second[0]) in self.plan.turns():
            return self.turning
        return self.clearing


def _check_times(plan, runs, dwells, starts):
    for train in range(plan.size):
        steps = plan.train_of(train).steps
        lows = [run.low for run in runs[train]] if train < len(runs) else []
        stops = dwells[train] if train < len(dwells) else []
        if not _are_times(lows, steps, 1) or not _are_times(stops, steps, 0):
            raise BadTimes(train)
        if len(starts) > 0 and not _are_times(starts[train:train + 1], 1, 0):
            raise BadTimes(train)
    if max([len(runs), len(dwells), len(starts)]) > plan.size:
        raise BadTimes(plan.size)


def _are_times(numbers, many, least):
    """Tell whether there are so many numbers, none of them less than the least."""
    return len(numbers) == many and all([number >= least for number in numbers])


def _check_choice(clock, choice):
    for train in range(clock.plan.size):
        if train >= len(choice) or len(choice[train]) != clock.plan.train_of(train).steps:
            raise BadTimes(train)
    if len(choice) > clock.plan.size:
        raise BadTimes(clock.plan.size)
    for train in range(len(choice)):
        for step in range(len(choice[train])):
            if choice[train][step] not in clock.run_span(train, step):
                raise OutOfSpan(train, step)


def timed_driving(clock, *, late=False):
    """Return a driving with all events in the order of their times, and else of run_out."""
    times = clock.times(late=late)
    events = events_of(run_out(clock.plan))
    timed = sorted([(times[train][number], at, train) for at, (train, number) in enumerate(events)])
    return [train for _, _, train in timed]


def critical(clock, event, *, late=False):
    """Return events, each of which explains the time of the next one; the given event stands last."""
    check_event(clock.plan, event)
    times = clock.times(late=late)
    events = [event]
    while not _is_at_start(clock, times, events[-1]):
        events.append(_reason(clock, times, events[-1], late))
    return events[::-1]


def _is_at_start(clock, times, event):
    train, number = event
    return number == 0 and times[train][0] == clock.start_of(train)


def _reason(clock, times, event, late):
    """Return the least directly preceding event that explains the time of the event."""
    time = times[event[0]][event[1]]
    found = []
    for before in clock.plan.befores(event):
        if times[before[0]][before[1]] + clock.gap(before, event, late=late) == time:
            found.append(before)
    return found[0]
