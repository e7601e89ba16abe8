"""Plans by chance, and what [31] and [32] say of them, word by word."""

import random
from itertools import permutations

from railhouse.layout import Layout
from railhouse.plans import Plan
from railhouse.trains import Train, releases
from tests.support import chance_layout, chance_ways, every_way

# The layout, the trains and the orders of the examples of the interface.
CHAIN = Layout([200, 100, 50, 100, 200], [(0, 1), (1, 2), (2, 3), (3, 4)], yards=[0, 2, 4])
TRAINS = [Train([0, 1, 2, 3, 4], length=70), Train([4, 3, 2, 1, 0], length=60)]
ALIVE = Plan(CHAIN, TRAINS, [[], [0, 1], [], [0, 1], []])
DEAD = Plan(CHAIN, TRAINS, [[], [0, 1], [], [1, 0], []])
# Trains that end and begin in yards, with turns between them.
SHUTTLES = [Train([0, 1, 2]), Train([2, 1, 0]), Train([0, 1, 2])]
SHUTTLE = Plan(CHAIN, SHUTTLES, [[], [0, 1, 2], [], [], []], turns=[(0, 1), (1, 2)])
# The turns lead from 1 to 0 and back, so nobody ever begins.
RING_OF_TURNS = Plan(CHAIN, SHUTTLES[:2], [[], [0, 1], [], [], []], turns=[(1, 0), (0, 1)])
EMPTY = Plan(Layout([], []), [], [])
IDLE = Plan(CHAIN, [], [[]] * 5)


def chance_plan(seed, many=4, size=8, joints=11, yards=0.3, turns=True):
    """Return a plan of at most `many` trains with orders by chance; it may be dead."""
    layout = chance_layout(seed, size, joints, yards=yards)
    chance = random.Random(seed)
    ways = chance_ways(layout, seed, many)
    trains = [Train(way, length=chance.randint(1, 12)) for way in ways]
    found = chance_turns(layout, trains) if turns else []
    chance.shuffle(found)
    return Plan(layout, trains, chance_orders(layout, trains, chance), turns=found)


def chance_turns(layout, trains):
    """Return as many turns as the first trains that fit allow."""
    found = []
    for first, second in permutations(range(len(trains)), 2):
        block = trains[first].blocks()[-1]
        fits = block == trains[second].blocks()[0] and layout.is_yard(block)
        if fits and not any(x == first or y == second for x, y in found):
            found.append((first, second))
    return found


def chance_orders(layout, trains, chance):
    orders = []
    for block in range(layout.size):
        users = [number for number, train in enumerate(trains) if block in train.blocks()]
        chance.shuffle(users)
        orders.append([] if layout.is_yard(block) else users)
    return orders


def great_plan():
    """Return an alive plan of 12 trains with 20 blocks each, which all take the same blocks."""
    layout = Layout([5] * 60, [(at, at + 1) for at in range(59)])
    orders = [list(range(12)) if block < 20 else [] for block in range(60)]
    return Plan(layout, [Train(list(range(20)), length=12) for _ in range(12)], orders)


def great_dead_plan():
    """Return the plan of great_plan with one wrong order, which one exchange can mend."""
    plan = great_plan()
    orders = [plan.order(block) for block in range(60)]
    orders[10] = [1, 0] + orders[10][2:]
    return Plan(plan.layout, [plan.train_of(train) for train in range(12)], orders)


def picture(plan):
    """Return all that a plan tells of itself."""
    trains = [plan.train_of(train) for train in range(plan.size)]
    rows = [(train.blocks(), train.length, train.steps, train.last) for train in trains]
    orders = [plan.order(block) for block in range(plan.layout.size)]
    pairs = [(event, plan.befores(event), plan.afters(event)) for event in all_events(plan)]
    return plan.layout, plan.size, plan.total, rows, orders, plan.turns(), pairs


def all_events(plan):
    return [(train, number) for train in range(plan.size) for number in range(plan.train_of(train).last + 1)]


def plain_pairs(plan):
    """Return all pairs of events of which the first one directly precedes the second one."""
    pairs = set()
    for train in range(plan.size):
        pairs.update(((train, number), (train, number + 1)) for number in range(plan.train_of(train).last))
    for block in range(plan.layout.size):
        order = plan.order(block)
        for x, y in zip(order, order[1:]):
            left = releases(plan.layout, plan.train_of(x))[plan.train_of(x).blocks().index(block)]
            pairs.add(((x, left), (y, 2 * plan.train_of(y).blocks().index(block))))
    for x, y in plan.turns():
        pairs.add(((x, plan.train_of(x).last), (y, 0)))
    return pairs


def plain_run_out(plan, pick=min):
    """Return a driving that obeys the plan and cannot be continued; `pick` chooses among the trains that may step."""
    pairs, done, driving = plain_pairs(plan), [0] * plan.size, []
    happened = set()
    while True:
        free = [
            train for train in range(plan.size)
            if done[train] <= plan.train_of(train).last
            and all(first in happened for first, second in pairs if second == (train, done[train]))
        ]
        if not free:
            return driving
        train = pick(free)
        happened.add((train, done[train]))
        done[train] += 1
        driving.append(train)


def plain_afters(plan):
    """Return for each event the set of all events that it comes before."""
    direct, found = {event: set() for event in all_events(plan)}, {}
    for first, second in plain_pairs(plan):
        direct[first].add(second)
    for event in direct:
        reached, new = set(), set(direct[event])
        while new:
            reached |= new
            new = set().union(*(direct[other] for other in new)) - reached
        found[event] = reached
    return found


def plain_chain(plan, first, second, barred=None):
    """Return the least of the shortest chains without the barred pair, or None."""
    pairs = plain_pairs(plan) - {barred}
    least = {first: [first]}
    for _ in range(plan.total):
        longer = {}
        for left, right in pairs:
            if left in least:
                longer[right] = min(longer.get(right, [(10 ** 9, 0)]), least[left] + [right])
        least = longer
        if second in least:
            return least[second]
    return None


def plain_moments(plan):
    """Return every moment of a driving that obeys the plan: for each train the number of events that have happened."""
    befores = {event: [] for event in all_events(plan)}
    for first, second in plain_pairs(plan):
        befores[second].append(first)
    found, new = set(), {(0,) * plan.size}
    while new:
        found |= new
        later = set()
        for done in new:
            for train, number in enumerate(done):
                event = (train, number)
                if event in befores and all(earlier < done[other] for other, earlier in befores[event]):
                    later.add(done[:train] + (number + 1,) + done[train + 1:])
        new = later - found
    return sorted(found)


def plain_open(plan, done, train, step):
    """Tell whether the stay is open at a moment."""
    entry, release = 2 * step, releases(plan.layout, plan.train_of(train))[step]
    return entry < done[train] <= release


def busy_plan(seed, many=3, size=5):
    """Return a plan of trains that run far over few blocks, so that they meet often; it may be dead."""
    chance = random.Random(seed)
    joints = [(at, at + 1) for at in range(size - 1)]
    joints += [(at, at + 2) for at in range(size - 2) if chance.random() < 0.3]
    marked = [block for block in range(size) if chance.random() < 0.4]
    layout = Layout([chance.randint(1, 5) for _ in range(size)], joints, yards=marked)
    far = [way for way in every_way(layout) if len(way) > size - 3]
    trains = []
    for _ in range(many):
        trains.append(Train(chance.choice(far)[::chance.choice((1, -1))], length=chance.randint(1, 8)))
    orders = chance_orders(layout, trains, chance)
    if chance.random() < 0.5:
        first = list(range(many))
        chance.shuffle(first)
        orders = [sorted(order, key=first.index) for order in orders]
        for order in orders:
            if len(order) > 1 and chance.random() < 0.3:
                order[0], order[1] = order[1], order[0]
    return Plan(layout, trains, orders, turns=chance_turns(layout, trains))


def busy_plans(count, alive=None, many=3, size=5):
    """Return the first busy plans that are alive, or dead, or either."""
    found, seed = [], 0
    while len(found) < count:
        seed += 1
        plan = busy_plan(seed, many - seed % 2, size)
        if alive in (None, len(plain_run_out(plan)) == plan.total):
            found.append(plan)
    return found
