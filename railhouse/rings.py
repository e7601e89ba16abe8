"""The driving that obeys a plan as far as it goes, and the ring of trains on which a dead plan stands still."""

from railhouse.errors import BadDriving, NotAlive


def run_out(plan):
    """Return the driving in which always the least train that may step makes its step."""
    return run_on(plan, [0] * plan.size)


def run_on(plan, done):
    """Return what run_out does from a moment on; `done` counts the events of each train that have happened."""
    counts = list(done)
    driving = []
    train = 0
    while train < plan.size:
        if may_happen(plan, counts, train):
            event = (train, counts[train])
            counts[train] += 1
            driving.append(train)
            # A lesser train could not step before; only what the event itself precedes can be new.
            train = min([train] + [after for after, _ in plan.afters(event)])
        else:
            train += 1
    return driving


def may_happen(plan, done, train):
    """Tell whether the next event of the train may happen; `done` counts the events of each train."""
    number = done[train]
    if number > plan.train_of(train).last:
        return False
    return all([done[other] > earlier for other, earlier in plan.befores((train, number))])


def events_of(driving):
    """Return the event that each entry of a driving stands for."""
    counts = {}
    events = []
    for train in driving:
        number = counts.get(train, 0)
        events.append((train, number))
        counts[train] = number + 1
    return events


def done_after(plan, driving):
    """Return how many events of each train have happened after a driving that obeys the plan."""
    done = [0] * plan.size
    for at, train in enumerate(driving):
        if train < 0 or train >= plan.size or not may_happen(plan, done, train):
            raise BadDriving(at)
        done[train] += 1
    return done


def is_alive(plan):
    """Tell whether a driving that obeys the plan contains all events."""
    return len(run_out(plan)) == plan.total


def check_alive(plan):
    """Raise NotAlive if the plan is dead."""
    found = standstill(plan)
    if found is not None:
        _, _, ring = found
        raise NotAlive(ring)


def standstill(plan):
    """Return where a dead plan stands still, as `(done, waits, ring)`, or None for an alive plan."""
    driving = run_out(plan)
    if len(driving) == plan.total:
        return None
    done = [driving.count(train) for train in range(plan.size)]
    waits = [wait_of(plan, done, train) for train in range(plan.size) if done[train] <= plan.train_of(train).last]
    return done, waits, _ring(waits)


def wait_of(plan, done, train):
    """Return `(train, other, block)`: for whom and where the next event of the train has to wait."""
    number = done[train]
    for first, second in plan.turns():
        if number == 0 and second == train and done[first] <= plan.train_of(first).last:
            return train, first, -1
    block = plan.train_of(train).blocks()[number // 2]
    order = plan.order(block)
    return train, order[order.index(train) - 1], block


def _ring(waits):
    """Return the ring to which the least waiting train leads, its least train first."""
    others = {train: other for train, other, _ in waits}
    reached = []
    train = waits[0][0]
    while train not in reached:
        reached.append(train)
        train = others[train]
    ring = reached[reached.index(train):]
    least = ring.index(min(ring))
    return ring[least:] + ring[:least]
