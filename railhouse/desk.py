"""The control desk: a driving of a plan whose runs can be delayed and whose orders can be exchanged on the way."""

from railhouse.deeds import perform
from railhouse.drives import free_trains, next_number
from railhouse.errors import NothingToUndo, OutOfSpan, RunOver, TooLate
from railhouse.exchanges import exchange, neighbours
from railhouse.panel import Panel
from railhouse.passing import panel_deeds
from railhouse.plans import bounds_at, check_step, check_train, orders_of
from railhouse.promises import latenesses
from railhouse.rings import run_on


class Desk:
    """The present plan, the times of the events that have happened, and a panel that holds their blocks."""

    def __init__(self, clock):
        # A clock over the present plan.
        self._clock = clock
        self._panel = Panel(clock.plan.layout, flank=False)
        self._running = clock.choice()
        # The times of the events that have happened, for each train.
        self._times = [[] for _ in range(clock.plan.size)]
        # Each accepted deed, with what it takes to undo it.
        self._accepted = []

    @property
    def present(self):
        """The present plan."""
        return self._clock.plan

    @property
    def finished(self):
        """True if all events have happened."""
        return sum([len(times) for times in self._times]) == self._clock.plan.total

    def step(self, train):
        """Let the next event of the train happen and return its time."""
        plan = self._clock.plan
        number = next_number(plan, self._happened(), train)
        time = self._clock.time_under(self._running, self._times, (train, number))
        many = perform(self._panel, panel_deeds(plan, train, number))
        self._times[train].append(time)
        self._accepted.append((("step", train), many))
        return time

    def delay(self, train, step, amount):
        """Make the running time of a step longer and return it."""
        check_step(self._clock.plan, train, step)
        if self.done(train) > 2 * step + 1:
            raise RunOver(train, step)
        before = self._running[train][step]
        if before + amount not in self._clock.run_span(train, step):
            raise OutOfSpan(train, step)
        self._running[train][step] = before + amount
        self._accepted.append((("delay", train, step, amount), before))
        return before + amount

    def exchange(self, block, place):
        """Exchange two neighbours in the order of a block; return them, the one that now goes first standing first."""
        first, second = neighbours(self._clock.plan, block, place)
        if self.done(first) > bounds_at(self._clock.plan, first, block)[0]:
            raise TooLate(block, place)
        self._clock = self._exchanged(block, place)
        self._accepted.append((("exchange", block, place), None))
        return second, first

    def undo(self):
        """Take back the last deed and return it."""
        if len(self._accepted) == 0:
            raise NothingToUndo()
        deed, before = self._accepted.pop()
        if deed[0] == "step":
            self._times[deed[1]].pop()
            for _ in range(before):
                self._panel.undo()
        elif deed[0] == "delay":
            self._running[deed[1]][deed[2]] = before
        else:
            # An exchange that is made twice changes nothing.
            self._clock = self._exchanged(deed[1], deed[2])
        return deed

    def journal(self):
        """Return the deeds that were accepted and not taken back, the oldest first."""
        return [deed for deed, _ in self._accepted]

    def run(self):
        """Let the least train that may step make its step until all events have happened; return these trains."""
        driving = run_on(self._clock.plan, self._happened())
        for train in driving:
            self.step(train)
        return driving

    def done(self, train):
        """Return the number of events of the train that have happened."""
        check_train(self._clock.plan, train)
        return len(self._times[train])

    def may_step(self):
        """Return the trains whose next event may happen, ascending."""
        return free_trains(self._clock.plan, self._happened())

    def holders(self, block):
        """Return the trains that hold the block, ascending."""
        return self._panel.holders(block)

    def times(self):
        """Return the times of the events that have happened, for each train."""
        return [list(times) for times in self._times]

    def forecast(self):
        """Return the times of all events under the present plan and running times."""
        return self._clock.times_under(self._running)

    def lateness(self, promises):
        """Return the greatest lateness of the promises under the forecast, 0 if there are none."""
        return max(latenesses(self._clock.plan, self.forecast(), promises), default=0)

    def state(self):
        """Return the numbers of events done, the running times, the orders and the times."""
        running = [list(row) for row in self._running]
        return self._happened(), running, orders_of(self._clock.plan), self.times()

    def _happened(self):
        """Return for each train the number of its events that have happened."""
        return [len(times) for times in self._times]

    def _exchanged(self, block, place):
        """Return the clock over the present plan with an exchange."""
        return self._clock.over(exchange(self._clock.plan, block, place))
