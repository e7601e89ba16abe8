"""Plans: in which order the trains take each block, and which event directly precedes which."""

from railhouse.errors import BadOrder, BadTrain, BadTurn, NoEvent, NoStep, NoTrain, RailError
from railhouse.layout import check_block
from railhouse.trains import releases
from railhouse.ways import is_way


class Plan:
    """Trains on a layout, an order of them for each block, and turns."""

    def __init__(self, layout, trains, orders, *, turns=()):
        _check_trains(layout, trains)
        _check_orders(layout, trains, orders)
        _check_turns(layout, trains, turns)
        self.layout = layout
        self.size = len(trains)
        self.total = sum([train.last + 1 for train in trains])
        self._trains = list(trains)
        self._orders = [list(order) for order in orders]
        self._turns = sorted([(first, second) for first, second in turns])
        self._releases = [releases(layout, train) for train in trains]
        self._befores = {}
        self._afters = {}
        self._link_events()

    def train_of(self, number):
        """Return the train with this number."""
        check_train(self, number)
        return self._trains[number]

    def order(self, block):
        """Return the trains in the order in which they take the block."""
        check_block(self.layout, block)
        return list(self._orders[block])

    def turns(self):
        """Return the turns, ascending."""
        return list(self._turns)

    def stay(self, train, step):
        """Return the numbers of the entry and the release of the step."""
        check_step(self, train, step)
        return 2 * step, self._releases[train][step]

    def befores(self, event):
        """Return the events that directly precede the event, ascending."""
        check_event(self, event)
        return list(self._befores[event])

    def afters(self, event):
        """Return the events that the event directly precedes, ascending."""
        check_event(self, event)
        return list(self._afters[event])

    def _link_events(self):
        for train in range(self.size):
            for number in range(self._trains[train].last + 1):
                self._befores[(train, number)] = []
                self._afters[(train, number)] = []
        for first, second in sorted(self._pairs()):
            self._afters[first].append(second)
            self._befores[second].append(first)

    def _pairs(self):
        """Return all pairs of events of which the first one directly precedes the second one."""
        pairs = []
        for train in range(self.size):
            for number in range(self._trains[train].last):
                pairs.append(((train, number), (train, number + 1)))
        for block in range(self.layout.size):
            order = self._orders[block]
            for first, second in zip(order, order[1:]):
                pairs.append(((first, bounds_at(self, first, block)[1]), (second, bounds_at(self, second, block)[0])))
        for first, second in self._turns:
            pairs.append(((first, self._trains[first].last), (second, 0)))
        return pairs


def check_train(plan, train):
    """Raise NoTrain if the plan has no train with this number."""
    if train < 0 or train >= plan.size:
        raise NoTrain(train)


def check_step(plan, train, step):
    """Raise NoTrain or NoStep if the plan has no such step."""
    check_train(plan, train)
    if step < 0 or step >= plan.train_of(train).steps:
        raise NoStep(train, step)


def check_event(plan, event):
    """Raise NoTrain or NoEvent if the plan has no such event."""
    train, number = event
    check_train(plan, train)
    if number < 0 or number > plan.train_of(train).last:
        raise NoEvent(train, number)


def is_event(plan, event):
    """Tell whether the pair is an event of the plan."""
    try:
        check_event(plan, event)
    except RailError:
        return False
    return True


def trains_of(plan):
    """Return all trains of the plan."""
    return [plan.train_of(train) for train in range(plan.size)]


def orders_of(plan):
    """Return the orders of all blocks."""
    return [plan.order(block) for block in range(plan.layout.size)]


def bounds_at(plan, train, block):
    """Return the bounds of the stay of the train at a block of its way."""
    return plan.stay(train, plan.train_of(train).step_of(block))


def _check_trains(layout, trains):
    for train in range(len(trains)):
        if not is_way(layout, trains[train].blocks()):
            raise BadTrain(train)


def _check_orders(layout, trains, orders):
    for block in range(layout.size):
        if block >= len(orders) or sorted(orders[block]) != _users(layout, trains, block):
            raise BadOrder(block)
    if len(orders) > layout.size:
        raise BadOrder(layout.size)


def _users(layout, trains, block):
    """Return the trains that stand in the order of the block, ascending."""
    if layout.is_yard(block):
        return []
    return [train for train in range(len(trains)) if trains[train].step_of(block) >= 0]


def _check_turns(layout, trains, turns):
    for at in range(len(turns)):
        first, second = turns[at]
        earlier = turns[:at]
        if not _may_turn(layout, trains, first, second) or _stands_in(earlier, first, second):
            raise BadTurn(first, second)


def _may_turn(layout, trains, first, second):
    """Tell whether both are trains, and the first one ends in the yard in which the second one begins."""
    for train in (first, second):
        if train < 0 or train >= len(trains):
            return False
    block = trains[first].blocks()[-1]
    return first != second and block == trains[second].blocks()[0] and layout.is_yard(block)


def _stands_in(turns, first, second):
    return any([first == left or second == right for left, right in turns])


def orders_by_time(layout, trains, times):
    """Return for each block the trains in the order of the times of their steps there."""
    _check_trains(layout, trains)
    orders = []
    for block in range(layout.size):
        users = _users(layout, trains, block)
        timed = sorted([(times[train][trains[train].step_of(block)], train) for train in users])
        orders.append([train for _, train in timed])
    return orders
