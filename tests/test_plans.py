"""[30], [31], [33] and [34]: plans, what directly precedes, questions of a plan, orders by time."""

import random
import unittest

from railhouse.errors import BadOrder, BadTrain, BadTurn, NoBlock, NoEvent, NoStep, NoTrain
from railhouse.layout import Layout
from railhouse.plans import Plan, orders_by_time
from railhouse.trains import Train, releases
from tests.plain_plans import all_events, chance_plan, plain_pairs
from tests.support import GREAT, Case, chance_layout, chance_ways, no_blocks

CHAIN = Layout([200, 100, 50, 100, 200], [(0, 1), (1, 2), (2, 3), (3, 4)], yards=[0, 2, 4])
TRAINS = [Train([0, 1, 2, 3, 4], length=70), Train([4, 3, 2, 1, 0], length=60)]
ORDERS = [[], [0, 1], [], [1, 0], []]
# Trains that end and begin in yards, so that turns are possible.
SHUTTLES = [Train([0, 1, 2]), Train([2, 1, 0]), Train([0, 1, 2]), Train([2, 3]), Train([0])]
SHUTTLE_ORDERS = [[], [0, 1, 2], [], [3], []]


class PlanTest(Case):
    def setUp(self):
        self.plan = Plan(CHAIN, TRAINS, ORDERS)

    def test_questions(self):
        self.assertEqual((self.plan.size, self.plan.total), (2, 22))
        self.assertEqual(self.plan.layout, CHAIN)
        self.assertEqual([self.plan.order(block) for block in range(5)], ORDERS)
        self.assertEqual(self.plan.turns(), [])
        for number in range(2):
            train = self.plan.train_of(number)
            self.assertEqual((train.blocks(), train.length), (TRAINS[number].blocks(), TRAINS[number].length))
        self.assertEqual([self.plan.stay(0, step) for step in range(5)], [(0, 3), (2, 7), (4, 7), (6, 9), (8, 10)])

    def test_what_directly_precedes(self):
        self.assertEqual(self.plan.befores((0, 0)), [])
        self.assertEqual(self.plan.befores((0, 6)), [(0, 5), (1, 7)])
        self.assertEqual(self.plan.befores((1, 6)), [(0, 7), (1, 5)])
        self.assertEqual(self.plan.afters((0, 7)), [(0, 8), (1, 6)])
        self.assertEqual(self.plan.afters((0, 10)), [])
        self.assertEqual(self.plan.afters((1, 7)), [(0, 6), (1, 8)])

    def test_one_event_that_releases_several_blocks(self):
        layout = Layout([1, 1, 9, 1], [(0, 1), (1, 2), (0, 3)])
        plan = Plan(layout, [Train([0, 1, 2], length=5), Train([3, 0]), Train([2, 1])],
                    [[0, 1], [0, 2], [0, 2], [1]])
        self.assertEqual(plan.afters((0, 5)), [(0, 6), (1, 2), (2, 2)])
        self.assertEqual(plan.afters((0, 6)), [(2, 0)])
        self.assertEqual(plan.befores((2, 2)), [(0, 5), (2, 1)])
        self.assertEqual(plan.befores((2, 0)), [(0, 6)])

    def test_turns(self):
        for turns in ([(1, 2), (0, 1)], ((1, 2), (0, 1))):
            plan = Plan(CHAIN, SHUTTLES, SHUTTLE_ORDERS, turns=turns)
            self.assertEqual(plan.turns(), [(0, 1), (1, 2)])
            self.assertEqual(plan.befores((1, 0)), [(0, 6)])
            self.assertEqual(plan.afters((0, 6)), [(1, 0)])
            self.assertEqual(plan.afters((0, 5)), [(0, 6), (1, 2)])
            self.assertEqual(plan.afters((1, 6)), [(2, 0)])
        self.assertEqual(Plan(CHAIN, SHUTTLES, SHUTTLE_ORDERS).turns(), [])
        self.assertEqual(Plan(CHAIN, SHUTTLES, SHUTTLE_ORDERS, turns=[]).turns(), [])
        ring = Plan(CHAIN, SHUTTLES, SHUTTLE_ORDERS, turns=[(0, 1), (1, 0)])
        self.assertEqual(ring.turns(), [(0, 1), (1, 0)])

    def test_a_last_event_that_releases_a_block_and_turns(self):
        long = [Train([0, 1, 2], length=51), Train([2, 1, 0])]
        plan = Plan(CHAIN, long, [[], [0, 1], [], [], []], turns=[(0, 1)])
        self.assertEqual(plan.afters((0, 6)), [(1, 0), (1, 2)])

    def test_a_turn_into_a_train_of_one_block(self):
        plan = Plan(CHAIN, SHUTTLES, SHUTTLE_ORDERS, turns=[(1, 4), (4, 2)])
        self.assertEqual(plan.afters((4, 2)), [(2, 0)])

    def test_no_trains_and_no_blocks(self):
        empty = Plan(Layout([], []), [], [])
        self.assertEqual((empty.size, empty.total, empty.turns()), (0, 0, []))
        self.refused(NoTrain, {"train": 0}, empty.train_of, 0)
        self.refused(NoBlock, {"block": 0}, empty.order, 0)
        idle = Plan(CHAIN, [], [[]] * 5)
        self.assertEqual((idle.size, idle.total, idle.order(1)), (0, 0, []))

    def test_by_name(self):
        plan = Plan(layout=CHAIN, trains=SHUTTLES, orders=SHUTTLE_ORDERS, turns=[(0, 1)])
        self.assertEqual([plan.order(block=1), plan.train_of(number=3).blocks()], [[0, 1, 2], [2, 3]])
        self.assertEqual([plan.stay(train=0, step=0), plan.befores(event=(0, 1))], [(0, 3), [(0, 0)]])
        self.assertEqual(plan.afters(event=(0, 1)), [(0, 2)])
        with self.assertRaises(TypeError):
            Plan(CHAIN, SHUTTLES, SHUTTLE_ORDERS, [])

    def test_by_chance(self):
        for seed in range(60):
            plan = chance_plan(seed, many=5)
            pairs = plain_pairs(plan)
            for event in all_events(plan):
                self.assertEqual(plan.befores(event), sorted(first for first, second in pairs if second == event))
                self.assertEqual(plan.afters(event), sorted(second for first, second in pairs if first == event))
            for number in range(plan.size):
                train = plan.train_of(number)
                for step, number_of_release in enumerate(releases(plan.layout, train)):
                    self.assertEqual(plan.stay(number, step), (2 * step, number_of_release))
            self.assertEqual(plan.total, len(all_events(plan)))


class ConstructorErrorTest(Case):
    def test_bad_train(self):
        for bad in ([0, 2], [0, 1, 0], [9], [-1], [0, 1, 3], [GREAT]):
            self.refused(BadTrain, {"train": 0}, Plan, CHAIN, [Train(bad), Train([7])], [[9]], turns=[(5, 5)])
            self.refused(BadTrain, {"train": 1}, Plan, CHAIN, [Train([0]), Train(bad)], [])

    def test_bad_order(self):
        good = [[], [0, 1], [], [1, 0], []]
        for block, order in (
            (1, []), (1, [0]), (1, [0, 0]), (1, [0, 1, 1]), (1, [0, 2]), (1, [-1, 0]), (3, [0, 1, 2]), (3, [1, GREAT]),
            (0, [0]), (0, [0, 1]), (2, [0, 1]), (4, [GREAT]),
        ):
            orders = good[:block] + [order] + good[block + 1:]
            self.refused(BadOrder, {"block": block}, Plan, CHAIN, TRAINS, orders, turns=[(5, 5)])
            self.refused(BadOrder, {"block": block}, Plan, CHAIN, TRAINS, orders + [[]])

    def test_a_missing_order(self):
        for many in range(5):
            self.refused(BadOrder, {"block": many}, Plan, CHAIN, TRAINS, ORDERS[:many])

    def test_too_many_orders(self):
        self.refused(BadOrder, {"block": 5}, Plan, CHAIN, TRAINS, ORDERS + [[]])
        self.refused(BadOrder, {"block": 5}, Plan, CHAIN, TRAINS, ORDERS + [[], [4]], turns=[(0, 0)])
        self.refused(BadOrder, {"block": 0}, Plan, Layout([], []), [], [[]])

    def test_an_order_of_a_block_that_no_train_uses(self):
        self.refused(BadOrder, {"block": 3}, Plan, CHAIN, [Train([0, 1])], [[], [0], [], [0], []])

    def test_bad_turn(self):
        for first, second in (
            (5, 1), (0, 5), (-1, 1), (0, -1), (GREAT, 0), (0, GREAT), (0, 0), (4, 4), (0, 2), (1, 3), (3, 0), (2, 4),
            (-1, 0), (0, -4),
        ):
            values = {"first": first, "second": second}
            self.refused(BadTurn, values, Plan, CHAIN, SHUTTLES, SHUTTLE_ORDERS, turns=[(first, second)])
            self.refused(BadTurn, values, Plan, CHAIN, SHUTTLES, SHUTTLE_ORDERS, turns=((first, second), (9, 9)))

    def test_turns_that_share_a_train(self):
        for turns, first, second in (
            ([(0, 1), (0, 1)], 0, 1), ([(0, 1), (2, 1)], 2, 1), ([(0, 1), (0, 3)], 0, 3), ([(1, 4), (2, 3), (1, 0)], 1, 0),
            ([(0, 1), (1, 0), (2, 1)], 2, 1),
        ):
            self.refused(BadTurn, {"first": first, "second": second},
                         Plan, CHAIN, SHUTTLES, SHUTTLE_ORDERS, turns=turns)

    def test_a_turn_on_a_plain_block(self):
        trains = [Train([0, 1]), Train([1, 0])]
        orders = [[], [0, 1], [], [], []]
        self.refused(BadTurn, {"first": 0, "second": 1}, Plan, CHAIN, trains, orders, turns=[(0, 1)])
        self.assertEqual(Plan(CHAIN, trains, orders, turns=[(1, 0)]).turns(), [(1, 0)])


class MethodErrorTest(Case):
    def test_trains_steps_events_and_blocks(self):
        plan = Plan(CHAIN, TRAINS, ORDERS)
        for number in no_blocks(2):
            self.refused(NoTrain, {"train": number}, plan.train_of, number)
            self.refused(NoTrain, {"train": number}, plan.stay, number, 99)
            self.refused(NoTrain, {"train": number}, plan.befores, (number, 99))
            self.refused(NoTrain, {"train": number}, plan.afters, (number, 99))
        for step in no_blocks(5):
            self.refused(NoStep, {"train": 1, "number": step}, plan.stay, 1, step)
            self.refused(NoBlock, {"block": step}, plan.order, step)
        for number in no_blocks(11):
            self.refused(NoEvent, {"train": 0, "number": number}, plan.befores, (0, number))
            self.refused(NoEvent, {"train": 0, "number": number}, plan.afters, (0, number))


class CopyTest(Case):
    def test_arguments_are_copied_and_not_modified(self):
        trains, orders, turns = list(SHUTTLES), [list(order) for order in SHUTTLE_ORDERS], [(1, 2), (0, 1)]
        plan = Plan(CHAIN, trains, orders, turns=turns)
        self.assertEqual((trains, orders, turns), (SHUTTLES, SHUTTLE_ORDERS, [(1, 2), (0, 1)]))
        trains[0] = Train([4])
        trains.append(Train([4]))
        orders[1].reverse()
        orders[0].append(3)
        orders.pop()
        turns.pop()
        self.assertEqual([plan.order(block) for block in range(5)], SHUTTLE_ORDERS)
        self.assertEqual((plan.turns(), plan.size, plan.train_of(0).blocks()), ([(0, 1), (1, 2)], 5, [0, 1, 2]))

    def test_results_are_new(self):
        plan = Plan(CHAIN, SHUTTLES, SHUTTLE_ORDERS, turns=[(0, 1)])
        plan.order(1).clear()
        plan.turns().clear()
        plan.befores((1, 0)).clear()
        plan.afters((0, 6)).clear()
        plan.train_of(0).blocks().clear()
        self.assertEqual((plan.order(1), plan.turns()), ([0, 1, 2], [(0, 1)]))
        self.assertEqual((plan.befores((1, 0)), plan.afters((0, 6))), ([(0, 6)], [(1, 0)]))
        self.assertEqual(plan.train_of(0).blocks(), [0, 1, 2])


class OrderByTimeTest(Case):
    def test_example(self):
        times = [[0, 10, 20, 30, 40], [0, 10, 20, 30, 40]]
        self.assertEqual(orders_by_time(CHAIN, TRAINS, times), [[], [0, 1], [], [1, 0], []])
        self.assertEqual(orders_by_time(CHAIN, TRAINS, [[0, 30, 20, 30, 40], [0, 30, 9, 10, 9]]),
                         [[], [1, 0], [], [0, 1], []])

    def test_equal_times(self):
        trains = [Train([0, 1]), Train([1]), Train([2, 1])]
        self.assertEqual(orders_by_time(CHAIN, trains, [[0, 5], [5], [1, 5]])[1], [0, 1, 2])
        self.assertEqual(orders_by_time(CHAIN, trains, [[0, 5], [5], [1, 4]])[1], [2, 0, 1])

    def test_no_trains(self):
        self.assertEqual(orders_by_time(CHAIN, [], []), [[]] * 5)
        self.assertEqual(orders_by_time(Layout([], []), [], []), [])

    def test_by_chance(self):
        for seed in range(40):
            layout, chance = chance_layout(seed, 8, 11), random.Random(seed)
            trains = [Train(way) for way in chance_ways(layout, seed, 6)]
            times = [[chance.randint(0, 4) for _ in train.blocks()] for train in trains]
            orders = orders_by_time(layout=layout, trains=trains, times=times)
            Plan(layout, trains, orders)
            for block, order in enumerate(orders):
                keys = [(times[number][trains[number].blocks().index(block)], number) for number in order]
                self.assertEqual(keys, sorted(keys))

    def test_bad_train(self):
        self.refused(BadTrain, {"train": 1}, orders_by_time, CHAIN, [Train([0]), Train([0, 2]), Train([9])], [])

    def test_arguments_and_results(self):
        trains, times = list(TRAINS), [[0, 10, 20, 30, 40], [0, 10, 20, 30, 40]]
        orders_by_time(CHAIN, trains, times)[1].clear()
        self.assertEqual(times, [[0, 10, 20, 30, 40], [0, 10, 20, 30, 40]])
        self.assertEqual(orders_by_time(CHAIN, trains, times), [[], [0, 1], [], [1, 0], []])


class BoundTest(Case):
    def test_twelve_trains(self):
        layout = Layout([10 ** 12] * 60, [(at, at + 1) for at in range(59)])
        ways = [list(range(3 * at, 3 * at + 20)) for at in range(12)]
        trains = [Train(way[::(-1) ** at], length=10 ** 12) for at, way in enumerate(ways)]
        times = [[at] * 20 for at in range(12)]
        orders = self.quick(orders_by_time, layout, trains, times)
        plan = self.quick(Plan, layout, trains, orders)
        self.assertEqual((plan.size, plan.total), (12, 492))

    def test_long_lists(self):
        self.refused(BadTurn, {"first": 0, "second": 1},
                     Plan, CHAIN, SHUTTLES, SHUTTLE_ORDERS, turns=[(0, 1)] * 1000)
        self.refused(BadOrder, {"block": 5}, Plan, CHAIN, TRAINS, ORDERS + [[]] * 995)


if __name__ == "__main__":
    unittest.main()
