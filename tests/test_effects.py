"""[63]: what each exchange does to the lateness of the promises."""

import random
import unittest
from copy import copy

from railhouse.clock import Clock
from railhouse.effects import best_exchange, exchange_effects
from railhouse.errors import NoStep, NoTrain
from railhouse.layout import Layout
from railhouse.plans import Plan
from railhouse.promises import greatest_lateness
from railhouse.spans import Span
from railhouse.trains import Train
from tests.plain_clock import CLOCK, busy_terms
from tests.plain_lines import orders_of
from tests.plain_plans import CHAIN, IDLE, picture, plain_run_out
from tests.support import GREAT, Case, no_blocks

# Two trains from yard to yard over block 1: train 0 goes first and takes long.
PAIR = Plan(CHAIN, [Train([0, 1, 2]), Train([2, 1, 0])], [[], [0, 1], [], [], []])
SLOW = Clock(PAIR, [[Span(20, 30), Span(5, 5), Span(5, 5)], [Span(5, 5), Span(5, 50), Span(5, 5)]], [[0] * 3] * 2)


def exchanged(plan, block, place):
    orders = orders_of(plan)
    orders[block][place:place + 2] = orders[block][place:place + 2][::-1]
    return Plan(plan.layout, [plan.train_of(train) for train in range(plan.size)], orders, turns=plan.turns())


def plain_effects(terms, promises, late):
    """Return what [63] says, by trying each exchange."""
    found = []
    for block in range(terms.plan.layout.size):
        for place in range(len(terms.plan.order(block)) - 1):
            other = copy(terms)
            other.plan = exchanged(terms.plan, block, place)
            if len(plain_run_out(other.plan)) == other.plan.total:
                times = other.times(other.picked(late))
                found.append((block, place, max([times[(train, 2 * step + 1)] - latest
                                                 for train, step, latest in promises], default=0)))
    return found


class EffectTest(Case):
    def test_a_single_exchange(self):
        # Train 0 leaves block 1 at 30; the other way round train 1 leaves it at 15.
        self.assertEqual(SLOW.times(), [[0, 20, 20, 25, 25, 30, 30], [0, 5, 30, 35, 35, 40, 40]])
        promises = [(1, 2, 40)]
        self.assertEqual(exchange_effects(SLOW, promises), [(1, 0, -25)])
        self.assertEqual(exchange_effects(SLOW, promises, late=True), [(1, 0, 20)])
        self.assertEqual(best_exchange(SLOW, promises), (1, 0, -25))
        self.assertEqual([greatest_lateness(SLOW, promises, late=late) for late in (True, False)], [55, 0])
        self.assertEqual(best_exchange(SLOW, promises, late=True), (1, 0, 20))

    def test_late_decides_about_both_latenesses(self):
        # The exchange makes the lateness less under all highs, and greater under all lows.
        clock = Clock(PAIR, [[Span(20, 90), Span(5, 5), Span(5, 5)], [Span(5, 5), Span(50, 50), Span(5, 5)]], [[0] * 3] * 2)
        found = [greatest_lateness(clock, [(0, 2, 40), (1, 2, 85)], late=late) for late in (True, False)]
        self.assertEqual(found, [70, 0])
        self.assertEqual(exchange_effects(clock, [(0, 2, 40), (1, 2, 85)], late=True), [(1, 0, 60)])
        self.assertEqual(best_exchange(clock, [(0, 2, 40), (1, 2, 85)], late=True), (1, 0, 60))
        self.assertEqual(exchange_effects(clock, [(0, 2, 40), (1, 2, 85)]), [(1, 0, 30)])
        self.assertIsNone(best_exchange(clock, [(0, 2, 40), (1, 2, 85)], late=False))

    def test_a_dead_exchange(self):
        self.assertEqual((exchange_effects(CLOCK, []), best_exchange(CLOCK, [(0, 0, 0)])), ([], None))

    def test_the_same_lateness_as_without(self):
        # Whoever goes first, the promise of an arrival that waits for nobody is as late.
        promises = [(0, 0, 10)]
        self.assertEqual((greatest_lateness(SLOW, promises, late=False), exchange_effects(SLOW, promises)), (10, [(1, 0, 10)]))
        self.assertIsNone(best_exchange(SLOW, promises))

    def test_no_promises(self):
        for late in (False, True):
            self.assertEqual(exchange_effects(SLOW, [], late=late), [(1, 0, 0)])
            self.assertIsNone(best_exchange(SLOW, [], late=late))

    def test_no_exchanges(self):
        idle = Clock(IDLE, [], [])
        self.assertEqual((exchange_effects(idle, []), best_exchange(idle, [])), ([], None))
        alone = Clock(Plan(CHAIN, [Train([0, 1, 2])], [[], [0], [], [], []]), [[Span(1, 1)] * 3], [[0] * 3])
        self.assertEqual((exchange_effects(alone, [(0, 0, 0)]), best_exchange(alone, [(0, 0, 0)])), ([], None))

    def test_the_first_of_several(self):
        # Train 2 waits for train 1 in block 3, which waits for train 0 in block 1; each exchange helps train 2.
        plan = Plan(CHAIN, [Train([0, 1, 2]), Train([0, 1, 2, 3, 4]), Train([2, 3, 4])], [[], [0, 1], [], [1, 2], []])
        runs = [[Span(1, 1), Span(9, 9)] * 2 + [Span(1, 1)] for _ in range(3)]
        clock = Clock(plan, [runs[0][:3], runs[1], runs[2][:3]], [[0] * 3, [0] * 5, [0] * 3])
        self.assertEqual(exchange_effects(clock, [(2, 2, 0)]), [(1, 0, 31), (3, 0, 11)])
        # The arrival of train 0 is late in any case.
        promises = [(2, 2, 35), (0, 0, 0)]
        self.assertEqual((greatest_lateness(clock, promises), exchange_effects(clock, promises)), (6, [(1, 0, 1), (3, 0, 1)]))
        self.assertEqual(best_exchange(clock, promises), (1, 0, 1))

    def test_two_exchanges_at_one_block(self):
        # Three trains over one block: both exchanges let train 2 wait less, by the same.
        layout = Layout([5] * 3, [(0, 1), (1, 2)], yards=[0, 2])
        plan = Plan(layout, [Train([0, 1, 2]) for _ in range(3)], [[], [0, 1, 2], []])
        clock = Clock(plan, [[Span(1, 1), Span(9, 9), Span(1, 1)]] * 3, [[0] * 3] * 3)
        self.assertEqual(exchange_effects(clock, [(2, 2, 0), (1, 2, 0)]), [(1, 0, 31), (1, 1, 31)])
        self.assertIsNone(best_exchange(clock, [(2, 2, 0), (1, 2, 0)]))
        self.assertEqual(exchange_effects(clock, [(1, 2, 0)]), [(1, 0, 11), (1, 1, 31)])
        self.assertEqual(best_exchange(clock, [(1, 2, 0)]), (1, 0, 11))
        self.assertEqual(exchange_effects(clock, [(2, 2, 0)]), [(1, 0, 31), (1, 1, 21)])
        self.assertEqual(best_exchange(clock, [(2, 2, 0)]), (1, 1, 21))

    def test_two_blocks_of_the_same_effect(self):
        layout = Layout([5] * 5, [(0, 1), (1, 2), (2, 3), (3, 4)], yards=[0, 2, 4])
        plan = Plan(layout, [Train([0, 1, 2]), Train([0, 1, 2]), Train([2, 3, 4]), Train([2, 3, 4])],
                    [[], [0, 1], [], [2, 3], []])
        clock = Clock(plan, [[Span(1, 1), Span(9, 9), Span(1, 1)]] * 4, [[0] * 3] * 4)
        # One promise of each pair, so an exchange helps one of them alone; the sum does not count.
        self.assertEqual(exchange_effects(clock, [(1, 2, 0), (3, 2, 0)]), [(1, 0, 21), (3, 0, 21)])
        self.assertIsNone(best_exchange(clock, [(1, 2, 0), (3, 2, 0)]))
        self.assertEqual(best_exchange(clock, [(1, 2, 0), (3, 2, 10)]), (1, 0, 11))
        self.assertEqual(best_exchange(clock, [(1, 2, 10), (3, 2, 0)]), (3, 0, 11))

    def test_by_chance(self):
        kinds = {}
        for terms in busy_terms(120):
            for many in (0, 1, 4):
                promises = terms.promises(random.Random(terms.seed), many)
                for late in (False, True):
                    wanted = plain_effects(terms, promises, late)
                    self.assertEqual(exchange_effects(terms.clock, promises, late=late), wanted)
                    now = max([terms.rows(terms.picked(late))[train][2 * step + 1] - latest
                               for train, step, latest in promises], default=0)
                    best = [effect for effect in wanted if effect[2] < now]
                    best = [effect for effect in best if effect[2] == min(other[2] for other in best)]
                    self.assertEqual(best_exchange(terms.clock, promises, late=late), best[0] if best else None)
                    kind = (len(best) > 0, len(wanted) > 1)
                    kinds[kind] = kinds.get(kind, 0) + 1
        self.assertTrue(all(kinds.get((some, many), 0) > 20 for some in (False, True) for many in (False, True)), kinds)

    def test_all_lows_are_the_default(self):
        for terms in busy_terms(20):
            promises = terms.promises(random.Random(terms.seed), 3)
            self.assertEqual(exchange_effects(terms.clock, promises), exchange_effects(terms.clock, promises, late=False))
            self.assertEqual(best_exchange(terms.clock, promises), best_exchange(terms.clock, promises, late=False))


class ErrorTest(Case):
    def test_promises(self):
        # Without any exchange they are looked at, too.
        for clock in (SLOW, CLOCK):
            for call in (exchange_effects, best_exchange):
                for late in (False, True):
                    for train in no_blocks(2):
                        self.refused(NoTrain, {"train": train}, call, clock, [(0, 0, 0), (train, 9, 0), (0, 9, 0)], late=late)
                    for step in (-1, 5, GREAT, -GREAT):
                        self.refused(NoStep, {"train": 1, "number": step}, call, clock, [(1, step, 0), (9, 0, 0)])


class CopyTest(Case):
    def test_nothing_is_modified_and_all_is_new(self):
        promises, before = [(1, 2, 40)], picture(PAIR)
        exchange_effects(clock=SLOW, promises=promises).clear()
        self.assertEqual(best_exchange(clock=SLOW, promises=promises, late=False), (1, 0, -25))
        self.assertEqual((promises, picture(SLOW.plan)), ([(1, 2, 40)], before))
        self.assertEqual(len(exchange_effects(SLOW, promises)), 1)
        for call in (exchange_effects, best_exchange):
            with self.assertRaises(TypeError):
                call(SLOW, promises, True)


class BoundTest(Case):
    def test_twelve_trains(self):
        # Yards between plain blocks, so that every exchange gives an alive plan.
        layout = Layout([1] * 60, [(at, at + 1) for at in range(59)], yards=list(range(0, 60, 2)))
        trains = [Train(list(range(20))) for _ in range(12)]
        plan = Plan(layout, trains, [list(range(12)) if block % 2 and block < 20 else [] for block in range(60)])
        clock = Clock(plan, [[Span(10 ** 12 - 9, 10 ** 12)] * 20] * 12, [[10 ** 12] * 20] * 12, clearing=10 ** 12)
        promises = [(at % 12, at % 20, 10 ** 12) for at in range(1000)]
        self.assertEqual(len(self.quick(exchange_effects, clock, promises)), 110)
        self.quick(best_exchange, clock, promises)

    def test_exchanges_that_are_dead(self):
        plan = Plan(Layout([1] * 60, [(at, at + 1) for at in range(59)]), [Train(list(range(20))) for _ in range(12)],
                    [list(range(12)) if block < 20 else [] for block in range(60)])
        clock = Clock(plan, [[Span(10 ** 12 - 9, 10 ** 12)] * 20] * 12, [[10 ** 12] * 20] * 12)
        self.assertEqual(self.quick(exchange_effects, clock, [(0, 0, 0)] * 1000), [])


if __name__ == "__main__":
    unittest.main()
