"""[58]: single plans and rings of two."""

import random
import unittest
from itertools import product

from railhouse.duels import two_ring
from railhouse.errors import NotSingle
from railhouse.layout import Layout
from railhouse.plans import Plan
from railhouse.rings import is_alive
from railhouse.trains import Train, releases
from tests.plain_plans import ALIVE, CHAIN, DEAD, EMPTY, IDLE, RING_OF_TURNS, SHUTTLE, SHUTTLES, busy_plans, chance_orders
from tests.plain_plans import picture, plain_run_out
from tests.support import Case


def plain_two_ring(plan):
    """Return the least ring of two by trying all trains and blocks, or None."""
    blocks = range(plan.layout.size)
    entries = [{block: 2 * step for step, block in enumerate(plan.train_of(train).blocks())} for train in range(plan.size)]
    lefts = [dict(zip(plan.train_of(train).blocks(), releases(plan.layout, plan.train_of(train))))
             for train in range(plan.size)]
    for x, y, a, b in product(range(plan.size), range(plan.size), blocks, blocks):
        if x < y and all(train in plan.order(block) for train in (x, y) for block in (a, b)):
            first, second = plan.order(a), plan.order(b)
            if first.index(x) < first.index(y) and second.index(y) < second.index(x):
                if entries[x][b] < lefts[x][a] and entries[y][a] < lefts[y][b]:
                    return x, y, a, b
    return None


def single_plan(seed):
    """Return a single plan by chance; its layout may be two chains that lie beside each other."""
    chance = random.Random(seed)
    size = chance.randint(3, 8)
    chains = [list(range(size))]
    if chance.random() < 0.3:
        first = [block for block in range(size) if chance.random() < 0.6]
        chains = [first, [block for block in range(size) if block not in first]]
    joints = [pair for row in chains for pair in zip(row, row[1:]) if chance.random() < 0.95]
    marked = [block for block in range(size) if chance.random() < 0.25]
    layout = Layout([chance.randint(1, 5) for _ in range(size)], joints, yards=marked)
    trains = []
    for _ in range(chance.randint(2, 5)):
        way = [chance.randrange(size)]
        for _ in range(chance.randint(0, size)):
            way += layout.east_of(way[-1])
        trains.append(Train(way[::chance.choice((1, -1))], length=chance.randint(1, 9)))
    return Plan(layout, trains, orders_near_one(layout, trains, chance))


def orders_near_one(layout, trains, chance):
    """Return orders that mostly put the trains in one order, so that few of them kill the plan."""
    rank = list(range(len(trains)))
    chance.shuffle(rank)
    orders = [sorted(order, key=rank.index) for order in chance_orders(layout, trains, chance)]
    for order in orders:
        if len(order) > 1 and chance.random() < 0.3:
            at = chance.randrange(len(order) - 1)
            order[at], order[at + 1] = order[at + 1], order[at]
    return orders


class RingTest(Case):
    def test_example(self):
        self.assertEqual(two_ring(DEAD), (0, 1, 1, 3))
        self.assertIsNone(two_ring(ALIVE))

    def test_the_blocks_the_other_way_round(self):
        # Train 1 runs eastward and goes first at block 1.
        trains = [Train([4, 3, 2, 1, 0], length=60), Train([0, 1, 2, 3, 4], length=70)]
        self.assertEqual(two_ring(Plan(CHAIN, trains, [[], [1, 0], [], [0, 1], []])), (0, 1, 3, 1))

    def test_trains_that_pass_in_a_yard(self):
        # One of them is short enough for the yard between the two blocks, or both are.
        for lengths in ((50, 70), (70, 50), (10, 10)):
            trains = [Train([0, 1, 2, 3, 4], length=lengths[0]), Train([4, 3, 2, 1, 0], length=lengths[1])]
            plan = Plan(CHAIN, trains, [[], [0, 1], [], [1, 0], []])
            self.assertIsNone(two_ring(plan))
            self.assertTrue(is_alive(plan))
        trains = [Train([0, 1, 2, 3, 4], length=51), Train([4, 3, 2, 1, 0], length=51)]
        self.assertEqual(two_ring(Plan(CHAIN, trains, [[], [0, 1], [], [1, 0], []])), (0, 1, 1, 3))

    def test_trains_of_one_direction(self):
        layout = Layout([5, 5, 5], [(0, 1), (1, 2)])
        plan = Plan(layout, [Train([0, 1, 2]), Train([0, 1, 2])], [[0, 1], [1, 0], [0, 1]])
        self.assertEqual(two_ring(plan), (0, 1, 0, 1))
        self.assertFalse(is_alive(plan))
        # A yard in between lets the second train pass the first one.
        passing = Layout([5, 5, 5], [(0, 1), (1, 2)], yards=[1])
        plan = Plan(passing, [Train([0, 1, 2]), Train([0, 1, 2])], [[0, 1], [], [1, 0]])
        self.assertIsNone(two_ring(plan))
        self.assertTrue(is_alive(plan))
        # Not so if the first one is too long for it.
        plan = Plan(passing, [Train([0, 1, 2], length=6), Train([0, 1, 2])], [[0, 1], [], [1, 0]])
        self.assertEqual((two_ring(plan), is_alive(plan)), ((0, 1, 0, 2), False))

    def test_trains_that_are_not_next_to_each_other(self):
        # Train 1 stands between the others in both blocks, and meets nobody itself.
        layout = Layout([5, 5], [(0, 1)])
        trains = [Train([0, 1]), Train([1]), Train([1, 0])]
        plan = Plan(layout, trains, [[0, 2], [2, 1, 0]])
        self.assertEqual(two_ring(plan), (0, 2, 0, 1))

    def test_several_rings(self):
        layout = Layout([5] * 4, [(0, 1), (1, 2), (2, 3)])
        plan = Plan(layout, [Train([0, 1, 2, 3]), Train([3, 2, 1, 0])], [[0, 1], [0, 1], [1, 0], [1, 0]])
        self.assertEqual(two_ring(plan), (0, 1, 1, 2))
        eastward, westward = Train([0, 1, 2, 3], length=11), Train([3, 2, 1, 0], length=11)
        plan = Plan(layout, [eastward, westward], [[0, 1], [0, 1], [1, 0], [1, 0]])
        self.assertEqual(two_ring(plan), (0, 1, 0, 2))
        plan = Plan(layout, [westward, eastward], [[1, 0], [1, 0], [0, 1], [0, 1]])
        self.assertEqual((two_ring(plan), plain_two_ring(plan)), ((0, 1, 2, 0), (0, 1, 2, 0)))
        # The least pair of trains is not the one that stands first in an order.
        plan = Plan(layout, [eastward, eastward, westward], [[1, 0, 2], [1, 0, 2], [2, 1, 0], [2, 1, 0]])
        self.assertEqual((two_ring(plan), plain_two_ring(plan)), ((0, 2, 0, 2), (0, 2, 0, 2)))
        plan = Plan(layout, [eastward, eastward, westward], [[0, 1, 2], [0, 1, 2], [0, 2, 1], [0, 2, 1]])
        self.assertEqual((two_ring(plan), plain_two_ring(plan)), ((1, 2, 0, 2), (1, 2, 0, 2)))

    def test_the_last_event_releases_what_no_block_behind_can_hold(self):
        layout = Layout([5, 5, 5], [(0, 1), (1, 2)], yards=[1])
        trains = [Train([0, 1, 2], length=11), Train([2, 1, 0], length=11)]
        self.assertEqual(two_ring(Plan(layout, trains, [[0, 1], [], [1, 0]])), (0, 1, 0, 2))

    def test_without_trains(self):
        self.assertIsNone(two_ring(EMPTY))
        self.assertIsNone(two_ring(IDLE))
        one = Plan(CHAIN, [Train([0, 1, 2])], [[], [0], [], [], []])
        self.assertIsNone(two_ring(one))

    def test_against_the_check_of_deadness_and_a_search(self):
        alive, dead, kinds = 0, 0, {}
        for seed in range(1200):
            plan = single_plan(seed)
            found = two_ring(plan)
            self.assertEqual(found, plain_two_ring(plan))
            self.assertEqual(found is None, len(plain_run_out(plan)) == plan.total)
            alive, dead = alive + (found is None), dead + (found is not None)
            if found:
                x, y, a, b = found
                kinds[a < b] = kinds.get(a < b, 0) + 1
        self.assertGreater(min(alive, dead, kinds[False], kinds[True]), 100, (alive, dead, kinds))


class NotSingleTest(Case):
    def test_a_plain_end(self):
        for joints in ([(0, 1), (0, 2)], [(0, 2), (1, 2)]):
            layout = Layout([5, 5, 5], joints)
            self.refused(NotSingle, {}, two_ring, Plan(layout, [], [[]] * 3))

    def test_a_yard_end(self):
        # No end is a point, but a yard has several joints.
        for joints, yard in (([(0, 1), (0, 2)], 0), ([(0, 2), (1, 2)], 2), ([(0, 1), (0, 2), (0, 3)], 0)):
            layout = Layout([5] * 4, joints, yards=[yard])
            self.assertEqual(layout.points(), [])
            self.refused(NotSingle, {}, two_ring, Plan(layout, [], [[]] * 4))

    def test_the_last_block(self):
        layout = Layout([5] * 5, [(0, 1), (1, 4), (2, 4)])
        self.refused(NotSingle, {}, two_ring, Plan(layout, [], [[]] * 5))

    def test_a_turn_alone(self):
        for plan in (SHUTTLE, RING_OF_TURNS, Plan(CHAIN, SHUTTLES[:2], [[], [0, 1], [], [], []], turns=[(0, 1)])):
            self.refused(NotSingle, {}, two_ring, plan)
        self.assertIsNone(two_ring(Plan(CHAIN, SHUTTLES[:2], [[], [0, 1], [], [], []])))

    def test_a_block_with_a_joint_on_each_side_is_single(self):
        self.assertIsNone(two_ring(Plan(Layout([5] * 4, [(0, 2), (1, 3)]), [], [[]] * 4)))

    def test_by_chance(self):
        refused = 0
        for plan in busy_plans(60):
            joints = plan.layout.joints()
            ends = [("east", west) for west, _ in joints] + [("west", east) for _, east in joints]
            if len(ends) > len(set(ends)) or plan.turns():
                self.refused(NotSingle, {}, two_ring, plan)
                refused += 1
            else:
                self.assertEqual(two_ring(plan), plain_two_ring(plan))
        self.assertTrue(10 < refused < 55, refused)


class BoundTest(Case):
    def test_nothing_is_modified(self):
        before = picture(DEAD)
        two_ring(plan=DEAD)
        self.assertEqual(picture(DEAD), before)

    def test_twelve_trains(self):
        layout = Layout([10 ** 12] * 60, [(at, at + 1) for at in range(59)])
        for many, steps in ((12, 20), (4, 60)):
            trains = [Train(list(range(steps)), length=10 ** 12) for _ in range(many)]
            orders = [list(range(many)) if block < steps else [] for block in range(60)]
            self.assertIsNone(self.quick(two_ring, Plan(layout, trains, orders), seconds=1))
            orders[steps - 1] = orders[steps - 1][:-2] + [many - 1, many - 2]
            self.assertEqual(self.quick(two_ring, Plan(layout, trains, orders), seconds=1),
                             (many - 2, many - 1, steps - 2, steps - 1))


if __name__ == "__main__":
    unittest.main()
