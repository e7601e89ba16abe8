"""[32] and [35]: drivings that obey, run_out, is_alive and standstill."""

import random
import unittest

from railhouse.layout import Layout
from railhouse.plans import Plan, orders_by_time
from railhouse.rings import is_alive, run_out, standstill
from railhouse.trains import Train
from tests.plain_plans import all_events, chance_plan, plain_pairs, plain_run_out
from tests.support import Case

CHAIN = Layout([200, 100, 50, 100, 200], [(0, 1), (1, 2), (2, 3), (3, 4)], yards=[0, 2, 4])
TRAINS = [Train([0, 1, 2, 3, 4], length=70), Train([4, 3, 2, 1, 0], length=60)]


def comes_before_itself(plan):
    """Tell whether the events that directly precede each other form a circle somewhere."""
    pairs = plain_pairs(plan)
    left = set(all_events(plan))
    while True:
        free = {event for event in left if not any(first in left and second == event for first, second in pairs)}
        if not free:
            return bool(left)
        left -= free


def plain_standstill(plan):
    """Return what [35] says, word by word."""
    driving = plain_run_out(plan)
    done = [driving.count(train) for train in range(plan.size)]
    waits = []
    for train in range(plan.size):
        if done[train] > plan.train_of(train).last:
            continue
        firsts = [x for x, y in plan.turns() if y == train and done[x] <= plan.train_of(x).last]
        if done[train] == 0 and firsts:
            waits.append((train, firsts[0], -1))
        else:
            block = plan.train_of(train).blocks()[done[train] // 2]
            order = plan.order(block)
            waits.append((train, order[order.index(train) - 1], block))
    if not waits:
        return None
    leads = {train: other for train, other, _ in waits}
    train, path = waits[0][0], []
    while train not in path:
        path.append(train)
        train = leads[train]
    ring = path[path.index(train):]
    while ring[0] != min(ring):
        ring = ring[1:] + ring[:1]
    return done, waits, ring


class RunOutTest(Case):
    def test_an_alive_plan(self):
        plan = Plan(CHAIN, TRAINS, [[], [0, 1], [], [0, 1], []])
        self.assertEqual(run_out(plan), [0] * 11 + [1] * 11)
        self.assertIs(is_alive(plan), True)
        self.assertIsNone(standstill(plan))

    def test_a_dead_plan(self):
        plan = Plan(CHAIN, TRAINS, [[], [0, 1], [], [1, 0], []])
        self.assertEqual(run_out(plan), [0] * 6 + [1] * 6)
        self.assertIs(is_alive(plan), False)
        self.assertEqual(standstill(plan), ([6, 6], [(0, 1, 3), (1, 0, 1)], [0, 1]))

    def test_the_least_train_goes_first_again(self):
        plan = Plan(CHAIN, TRAINS, [[], [1, 0], [], [1, 0], []])
        driving = run_out(plan)
        self.assertEqual(driving, plain_run_out(plan))
        self.assertEqual(driving[:3], [0, 0, 1])
        self.assertEqual(len(driving), 22)

    def test_no_trains_and_no_blocks(self):
        for plan in (Plan(Layout([], []), [], []), Plan(CHAIN, [], [[]] * 5)):
            self.assertEqual((run_out(plan), is_alive(plan), standstill(plan)), ([], True, None))

    def test_turns(self):
        shuttles = [Train([0, 1, 2]), Train([2, 1, 0])]
        plan = Plan(CHAIN, shuttles, [[], [1, 0], [], [], []], turns=[(1, 0)])
        self.assertEqual(run_out(plan), [1] * 7 + [0] * 7)
        ring = Plan(CHAIN, shuttles, [[], [0, 1], [], [], []], turns=[(1, 0), (0, 1)])
        self.assertEqual(standstill(ring), ([0, 0], [(0, 1, -1), (1, 0, -1)], [0, 1]))
        mixed = Plan(CHAIN, shuttles, [[], [0, 1], [], [], []], turns=[(1, 0)])
        self.assertEqual(standstill(mixed), ([0, 2], [(0, 1, -1), (1, 0, 1)], [0, 1]))

    def test_a_turn_whose_first_train_has_left(self):
        layout = Layout([9] * 4, [(0, 1), (1, 2), (1, 3)], yards=[0])
        trains = [Train([1, 0]), Train([0, 1, 2]), Train([2, 1, 3][:2])]
        plan = Plan(layout, trains, [[], [0, 1, 2], [1, 2], []], turns=[(0, 1)])
        self.assertTrue(is_alive(plan))
        dead = Plan(layout, trains, [[], [0, 1, 2], [2, 1], []], turns=[(0, 1)])
        self.assertEqual(standstill(dead), ([5, 4, 2], [(1, 2, 2), (2, 1, 1)], [1, 2]))

    def test_a_ring_that_does_not_hold_the_least_waiting_train(self):
        # Train 0 waits for train 2, which stands against train 1.
        trains = [Train([0, 1]), TRAINS[1], TRAINS[0]]
        plan = Plan(CHAIN, trains, [[], [2, 1, 0], [], [1, 2], []])
        self.assertEqual(standstill(plan), ([2, 6, 6], [(0, 1, 1), (1, 2, 1), (2, 1, 3)], [1, 2]))

    def test_two_rings(self):
        joints = [(at, at + 1) for at in range(9) if at != 4]
        layout = Layout([200, 100, 50, 100, 200] * 2, joints, yards=[0, 2, 4, 5, 7, 9])
        east, west = [0, 1, 2, 3, 4], [4, 3, 2, 1, 0]
        ways = [east, west, [block + 5 for block in east], [block + 5 for block in west]]
        for places, ring in (((0, 1, 2, 3), [0, 1]), ((0, 2, 1, 3), [0, 2]), ((3, 0, 1, 2), [0, 3])):
            trains = [None] * 4
            for place, way in zip(places, ways):
                trains[place] = Train(way, length=70)
            a, b, c, d = places
            orders = [[], [a, b], [], [b, a], [], [], [c, d], [], [d, c], []]
            plan = Plan(layout, trains, orders)
            self.assertEqual(standstill(plan), plain_standstill(plan))
            self.assertEqual(standstill(plan)[2], ring)

    def test_a_train_that_has_finished_does_not_wait(self):
        trains = [Train([2]), *TRAINS]
        plan = Plan(CHAIN, trains, [[], [1, 2], [], [2, 1], []])
        self.assertEqual(standstill(plan), ([3, 6, 6], [(1, 2, 3), (2, 1, 1)], [1, 2]))

    def test_trains_that_pass_on_a_yard(self):
        short = [Train([0, 1, 2, 3, 4], length=50), Train([4, 3, 2, 1, 0], length=50)]
        self.assertTrue(is_alive(Plan(CHAIN, short, [[], [0, 1], [], [1, 0], []])))

    def test_by_chance(self):
        dead = 0
        for seed in range(200):
            plan = chance_plan(seed, many=5)
            self.assertEqual(run_out(plan), plain_run_out(plan))
            self.assertEqual(standstill(plan), plain_standstill(plan))
            self.assertIs(is_alive(plan), not comes_before_itself(plan))
            self.assertEqual(is_alive(plan), len(run_out(plan)) == plan.total)
            dead += not is_alive(plan)
        self.assertTrue(20 < dead < 180)

    def test_all_drivings_that_cannot_be_continued_have_the_same_events(self):
        for seed in range(80):
            plan = chance_plan(seed, many=5)
            for pick in (max, random.Random(seed).choice):
                self.assertEqual(sorted(plain_run_out(plan, pick)), sorted(run_out(plan)))

    def test_by_name_and_new(self):
        plan = Plan(CHAIN, TRAINS, [[], [0, 1], [], [1, 0], []])
        run_out(plan=plan).clear()
        self.assertFalse(is_alive(plan=plan))
        done, waits, ring = standstill(plan=plan)
        done.clear()
        waits.clear()
        ring.clear()
        self.assertEqual(standstill(plan), ([6, 6], [(0, 1, 3), (1, 0, 1)], [0, 1]))
        self.assertEqual(run_out(plan), [0] * 6 + [1] * 6)


class BoundTest(Case):
    def test_twelve_trains(self):
        layout = Layout([5] * 60, [(at, at + 1) for at in range(59)])
        ways = [list(range(3 * at, 3 * at + 20)) for at in range(12)]
        trains = [Train(way[::(-1) ** at], length=12) for at, way in enumerate(ways)]
        for turn in (1, -1):
            times = [[at * turn + 12] * 20 for at in range(12)]
            plan = Plan(layout, trains, orders_by_time(layout, trains, times))
            self.assertEqual(len(self.quick(run_out, plan)), 492)
            self.assertTrue(self.quick(is_alive, plan))
        crossed = [[abs(step - 10) + at % 3 * 7 for step in range(20)] for at in range(12)]
        plan = Plan(layout, trains, orders_by_time(layout, trains, crossed))
        self.assertEqual(self.quick(standstill, plan), plain_standstill(plan))
        self.assertIsNotNone(standstill(plan))


if __name__ == "__main__":
    unittest.main()
