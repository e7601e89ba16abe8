"""Drives: a driving of a plan that is made step by step."""

from railhouse.errors import BadDriving, MustWait, NothingToUndo, TrainDone
from railhouse.layout import check_block
from railhouse.plans import check_train
from railhouse.rings import done_after, may_happen, run_on, wait_of


class Drive:
    """A driving that obeys a plan, from its beginning to the present moment."""

    def __init__(self, plan):
        self.plan = plan
        self._counts = [0] * plan.size
        self._made = []

    def __iter__(self):
        return iter(self._made)

    @property
    def finished(self):
        """True if all events of all trains have happened."""
        return len(self._made) == self.plan.total

    def step(self, train):
        """Let the next event of the train happen and return its number."""
        number = next_number(self.plan, self._counts, train)
        self._counts[train] += 1
        self._made.append(train)
        return number

    def back(self):
        """Take back the last step and return its train."""
        if len(self._made) == 0:
            raise NothingToUndo()
        train = self._made.pop()
        self._counts[train] -= 1
        return train

    def run(self):
        """Let the least train that may step make its step until none may, and return these trains."""
        driving = run_on(self.plan, self._counts)
        self._made.extend(driving)
        self._counts = [count + driving.count(train) for train, count in enumerate(self._counts)]
        return driving

    def done(self, train):
        """Return the number of events of the train that have happened."""
        check_train(self.plan, train)
        return self._counts[train]

    def may_step(self):
        """Return the trains whose next event may happen, ascending."""
        return free_trains(self.plan, self._counts)

    def held(self, train):
        """Return the blocks that the train holds, in the order of its way."""
        way = self.plan.train_of(train).blocks()
        return [way[step] for step in range(len(way)) if self._holds(train, step)]

    def holders(self, block):
        """Return the trains that hold the block, ascending."""
        check_block(self.plan.layout, block)
        steps = [(train, self.plan.train_of(train).step_of(block)) for train in range(self.plan.size)]
        return [train for train, step in steps if step >= 0 and self._holds(train, step)]

    def _holds(self, train, step):
        entry, release = self.plan.stay(train, step)
        return entry < self._counts[train] <= release


def next_number(plan, done, train):
    """Return the number of the train's next event; raise TrainDone or MustWait if none may happen."""
    check_train(plan, train)
    number = done[train]
    if number > plan.train_of(train).last:
        raise TrainDone(train)
    if not may_happen(plan, done, train):
        waiting, other, block = wait_of(plan, done, train)
        raise MustWait(waiting, other, block)
    return number


def free_trains(plan, done):
    """Return the trains whose next event may happen, ascending."""
    return [train for train in range(plan.size) if may_happen(plan, done, train)]


def is_driving(plan, driving):
    """Tell whether the list is a driving that obeys the plan, complete or not."""
    try:
        done_after(plan, driving)
    except BadDriving:
        return False
    return True
