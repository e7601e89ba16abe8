"""The driving that obeys a plan as far as it goes, and the ring of trains on which a dead plan stands still."""


def run_out(plan):
    """Return the driving in which always the least train that may step makes its step."""
    done = [0] * plan.size
    driving = []
    train = 0
    while train < plan.size:
        if may_happen(plan, done, train):
            event = (train, done[train])
            done[train] += 1
            driving.append(train)
            # A lesser train could not step before; only what the event itself precedes can be new.
            train = min([train] + [after for after, _ in plan.afters(event)])
        else:
            train += 1
    return driving


def may_happen(plan, done, train):
    """Tell whether the next event of the train may happen; `done` counts the events of each train."""
    number = done[train]
    if number > plan.train_of(train).last:
        return False
    return all([done[other] > earlier for other, earlier in plan.befores((train, number))])


def is_alive(plan):
    """Tell whether a driving that obeys the plan contains all events."""
    return len(run_out(plan)) == plan.total


def standstill(plan):
    """Return where a dead plan stands still, as `(done, waits, ring)`, or None for an alive plan."""
    driving = run_out(plan)
    if len(driving) == plan.total:
        return None
    done = [driving.count(train) for train in range(plan.size)]
    waits = [wait_of(plan, done, train) for train in range(plan.size) if done[train] <= plan.train_of(train).last]
    return done, waits, _ring(waits)


def wait_of(plan, done, train):
    """Return `(train, other, block)`: for whom and where the next event of the train has to wait."""
    number = done[train]
    for first, second in plan.turns():
        if number == 0 and second == train and done[first] <= plan.train_of(first).last:
            return train, first, -1
    block = plan.train_of(train).blocks()[number // 2]
    order = plan.order(block)
    return train, order[order.index(train) - 1], block


def _ring(waits):
    """Return the ring to which the least waiting train leads, its least train first."""
    others = {train: other for train, other, _ in waits}
    reached = []
    train = waits[0][0]
    while train not in reached:
        reached.append(train)
        train = others[train]
    ring = reached[reached.index(train):]
    least = ring.index(min(ring))
    return ring[least:] + ring[:least]
