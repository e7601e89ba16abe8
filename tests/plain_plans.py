"""Plans by chance, and what [31] and [32] say of them, word by word."""

import random

from railhouse.plans import Plan
from railhouse.trains import Train, releases
from tests.support import chance_layout, chance_ways


def chance_plan(seed, many=4, size=8, joints=11, yards=0.3, turns=True):
    """Return a plan of at most `many` trains with orders by chance; it may be dead."""
    layout = chance_layout(seed, size, joints, yards=yards)
    chance = random.Random(seed)
    ways = chance_ways(layout, seed, many)
    trains = [Train(way, length=chance.randint(1, 12)) for way in ways]
    found, firsts, seconds = [], [], []
    for first in range(len(trains)):
        for second in range(len(trains)):
            block = ways[first][-1]
            fits = first != second and block == ways[second][0] and layout.is_yard(block)
            if turns and fits and first not in firsts and second not in seconds:
                found.append((first, second))
                firsts.append(first)
                seconds.append(second)
    chance.shuffle(found)
    return Plan(layout, trains, chance_orders(layout, trains, chance), turns=found)


def chance_orders(layout, trains, chance):
    orders = []
    for block in range(layout.size):
        users = [number for number, train in enumerate(trains) if block in train.blocks()]
        chance.shuffle(users)
        orders.append([] if layout.is_yard(block) else users)
    return orders


def all_events(plan):
    return [(train, number) for train in range(plan.size) for number in range(plan.train_of(train).last + 1)]


def plain_pairs(plan):
    """Return all pairs of events of which the first one directly precedes the second one."""
    pairs = set()
    for train in range(plan.size):
        pairs.update(((train, number), (train, number + 1)) for number in range(plan.train_of(train).last))
    for block in range(plan.layout.size):
        order = plan.order(block)
        for x, y in zip(order, order[1:]):
            left = releases(plan.layout, plan.train_of(x))[plan.train_of(x).blocks().index(block)]
            pairs.add(((x, left), (y, 2 * plan.train_of(y).blocks().index(block))))
    for x, y in plan.turns():
        pairs.add(((x, plan.train_of(x).last), (y, 0)))
    return pairs


def plain_run_out(plan, pick=min):
    """Return a driving that obeys the plan and cannot be continued; `pick` chooses among the trains that may step."""
    pairs, done, driving = plain_pairs(plan), [0] * plan.size, []
    happened = set()
    while True:
        free = [
            train for train in range(plan.size)
            if done[train] <= plan.train_of(train).last
            and all(first in happened for first, second in pairs if second == (train, done[train]))
        ]
        if not free:
            return driving
        train = pick(free)
        happened.add((train, done[train]))
        done[train] += 1
        driving.append(train)
