"""[50] and [51]: promises, their lateness, latest times and delays that do no harm."""

import random
import unittest

from railhouse.clock import Clock
from railhouse.errors import NoStep, NoTrain
from railhouse.layout import Layout
from railhouse.plans import Plan
from railhouse.promises import broken, greatest_lateness, harmless, latest_times
from railhouse.spans import Span
from railhouse.trains import Train
from tests.plain_clock import CLOCK, busy_terms
from tests.plain_plans import IDLE, great_plan
from tests.support import GREAT, Case, no_blocks

# Arrivals of train 0 at 5, 11, 17, 23, 29, or 6, 13, 20, 27, 34 at the latest; of train 1 at 5, 36, 42, 48, 54,
# or 6, 42, 49, 56, 63 at the latest.
PROMISES = [(1, 4, 60), (0, 4, 29), (0, 0, 100), (1, 1, 40)]


def plain_lateness(terms, promises, running):
    times = terms.times(running)
    return [times[(train, 2 * step + 1)] - latest for train, step, latest in promises]


def plain_latest(terms, promises, late):
    running, found = terms.picked(late), {}
    for train, step, latest in promises:
        for event, length in terms.longest(running, (train, 2 * step + 1)).items():
            found[event] = min(found.get(event, latest - length), latest - length)
    return [[found.get((train, number)) for number in range(terms.plan.train_of(train).last + 1)]
            for train in range(terms.plan.size)]


class BrokenTest(Case):
    def test_late_and_early(self):
        self.assertEqual(broken(CLOCK, PROMISES), [(0, 3), (1, 5), (3, 2)])
        self.assertEqual(broken(CLOCK, PROMISES, late=True), [(0, 3), (1, 5), (3, 2)])
        self.assertEqual(broken(CLOCK, PROMISES, late=False), [])
        self.assertEqual(broken(CLOCK, [(0, 4, 28)], late=False), [(0, 1)])

    def test_a_promise_that_is_just_kept(self):
        self.assertEqual(broken(CLOCK, [(0, 4, 34)]), [])
        self.assertEqual(broken(CLOCK, [(0, 4, 33)]), [(0, 1)])

    def test_no_promises(self):
        for late in (False, True):
            self.assertEqual(broken(CLOCK, [], late=late), [])
            self.assertEqual(greatest_lateness(CLOCK, [], late=late), 0)
            self.assertEqual(latest_times(CLOCK, [], late=late), [[None] * 11] * 2)
        self.assertIsNone(harmless(CLOCK, [], 0, 0))
        idle = Clock(IDLE, [], [])
        self.assertEqual((broken(idle, []), greatest_lateness(idle, []), latest_times(idle, [])), ([], 0, []))

    def test_two_promises_of_one_arrival(self):
        self.assertEqual(broken(CLOCK, [(0, 4, 33), (0, 4, 34), (0, 4, 30)]), [(0, 1), (2, 4)])

    def test_greatest_lateness(self):
        self.assertEqual(greatest_lateness(CLOCK, PROMISES), 5)
        self.assertEqual(greatest_lateness(CLOCK, PROMISES, late=False), 0)
        self.assertEqual(greatest_lateness(CLOCK, [(0, 0, 100), (0, 1, 100)]), -87)
        self.assertEqual(greatest_lateness(CLOCK, [(0, 0, 100), (0, 1, 100)], late=False), -89)

    def test_by_chance(self):
        for terms in busy_terms(40):
            promises = terms.promises(random.Random(terms.seed), 4)
            for late in (False, True):
                lateness = plain_lateness(terms, promises, terms.picked(late))
                self.assertEqual(broken(terms.clock, promises, late=late),
                                 [(at, much) for at, much in enumerate(lateness) if much > 0])
                self.assertEqual(greatest_lateness(terms.clock, promises, late=late), max(lateness))

    def test_kept_under_every_choice(self):
        kept = 0
        for terms in [terms for terms in busy_terms(80, many=2) if len(terms.all_steps()) < 9]:
            promises = terms.promises(random.Random(terms.seed), 2)
            worst = max(max(plain_lateness(terms, promises, choice)) for choice in terms.all_choices())
            self.assertEqual(broken(terms.clock, promises) == [], worst <= 0)
            kept += worst <= 0
        self.assertGreater(kept, 5)


class LatestTimesTest(Case):
    def test_a_chain_back_from_the_promise(self):
        self.assertEqual(latest_times(CLOCK, [(0, 1, 100)], late=False),
                         [[89, 94, 95, 100] + [None] * 7, [None] * 11])
        self.assertEqual(latest_times(CLOCK, [(0, 1, 100)]), [[87, 93, 94, 100] + [None] * 7, [None] * 11])

    def test_over_two_trains(self):
        found = latest_times(CLOCK, [(1, 1, 100)], late=False)
        self.assertEqual(found[1], [89, 94, 95, 100] + [None] * 7)
        self.assertEqual(found[0], [64, 69, 70, 75, 76, 81, 82, 87, 88, 93, None])

    def test_the_least_of_several_promises(self):
        found = latest_times(CLOCK, [(0, 1, 100), (0, 1, 90), (0, 1, 95), (0, 0, 3)], late=False)
        self.assertEqual(found[0], [-2, 3, 85, 90] + [None] * 7)
        self.assertEqual(latest_times(CLOCK, [(0, 0, 3), (0, 1, 100)], late=False)[0][:4], [-2, 3, 95, 100])

    def test_by_chance(self):
        for terms in busy_terms(50):
            promises = terms.promises(random.Random(terms.seed), 3)
            for late in (False, True):
                for some in (promises, promises[:1]):
                    self.assertEqual(latest_times(terms.clock, some, late=late), plain_latest(terms, some, late))

    def test_no_promise_is_broken_exactly_if_no_event_is_later(self):
        for terms in busy_terms(30):
            promises = terms.promises(random.Random(terms.seed), 3)
            times, limits = terms.clock.times(late=True), latest_times(terms.clock, promises)
            kept = all(limit is None or time <= limit
                       for row, ends in zip(times, limits) for time, limit in zip(row, ends))
            self.assertEqual(kept, broken(terms.clock, promises) == [])


class HarmlessTest(Case):
    def test_up_to_the_promise(self):
        # Train 0 arrives at 29 under all lows, and train 1 at 36 waits for it.
        self.assertEqual(harmless(CLOCK, [(0, 4, 33)], 0, 2), 4)
        self.assertEqual(harmless(CLOCK, [(1, 1, 40)], 0, 2), 4)
        self.assertEqual(harmless(CLOCK, [(0, 4, 29)], 0, 0), 0)

    def test_a_delay_that_waiting_takes_up(self):
        # Train 1 stands at the end of its first block from 5 on and can go on only at 31.
        self.assertEqual(harmless(CLOCK, [(1, 1, 36)], 1, 0), 25)
        self.assertEqual(harmless(CLOCK, [(1, 1, 38)], 1, 0), 27)

    def test_a_promise_that_no_run_can_break(self):
        self.assertIsNone(harmless(CLOCK, [(0, 2, 17)], 0, 3))
        self.assertIsNone(harmless(CLOCK, [(0, 4, 29)], 1, 0))
        self.assertIsNone(harmless(CLOCK, [(0, 0, 5), (1, 0, 5)], 0, 4))

    def test_a_promise_that_is_broken_already(self):
        self.assertEqual(harmless(CLOCK, [(0, 4, 28)], 0, 0), -1)
        # It does not matter whether the run concerns the broken promise.
        self.assertEqual(harmless(CLOCK, [(0, 0, 4)], 1, 4), -1)
        self.assertEqual(harmless(CLOCK, [(1, 4, 99), (0, 0, 4)], 1, 4), -1)

    def test_out_of_the_span(self):
        self.assertEqual(harmless(CLOCK, [(0, 4, 10 ** 12)], 0, 2), 10 ** 12 - 29)

    def test_against_a_slow_search(self):
        kinds = {}
        for terms in busy_terms(50):
            promises = terms.promises(random.Random(terms.seed), 2)
            for train, step in terms.all_steps():
                found, running, most = harmless(terms.clock, promises, train, step), terms.picked(False), 60
                low = running[train][step]
                fits = []
                for more in range(most):
                    running[train][step] = low + more
                    if max(plain_lateness(terms, promises, running)) > 0:
                        break
                    fits.append(more)
                wanted = None if len(fits) == most else len(fits) - 1
                self.assertEqual(found, wanted)
                kind = wanted if wanted in (None, -1, 0) else 1
                kinds[kind] = kinds.get(kind, 0) + 1
        self.assertTrue(all(kinds.get(kind, 0) > 10 for kind in (None, -1, 0, 1)), kinds)


class ErrorTest(Case):
    def test_entry_by_entry(self):
        for call in (broken, greatest_lateness, latest_times):
            for late in (False, True):
                for train in no_blocks(2):
                    self.refused(NoTrain, {"train": train}, call, CLOCK, [(0, 0, 0), (train, 99, 0), (0, 5, 0)],
                                 late=late)
                for step in (-1, 5, GREAT, -GREAT):
                    self.refused(NoStep, {"train": 1, "number": step}, call, CLOCK, [(1, step, 0), (7, 0, 0)], late=late)

    def test_harmless_looks_at_the_step_first(self):
        for train in no_blocks(2):
            self.refused(NoTrain, {"train": train}, harmless, CLOCK, [(9, 9, 0)], train, 99)
            self.refused(NoTrain, {"train": train}, harmless, CLOCK, [(0, 0, 0), (train, 99, 0), (0, 5, 0)], 0, 0)
        for step in (-1, 5, GREAT, -GREAT):
            self.refused(NoStep, {"train": 1, "number": step}, harmless, CLOCK, [(9, 9, 0)], 1, step)
            self.refused(NoStep, {"train": 1, "number": step}, harmless, CLOCK, [(1, step, 0), (7, 0, 0)], 0, 0)


class CopyTest(Case):
    def test_by_name_new_and_not_modified(self):
        promises = list(PROMISES)
        broken(clock=CLOCK, promises=promises).clear()
        rows = latest_times(clock=CLOCK, promises=promises)
        rows[0].clear()
        rows.clear()
        self.assertEqual(greatest_lateness(clock=CLOCK, promises=promises), 5)
        self.assertEqual(harmless(clock=CLOCK, promises=promises, train=0, step=4), 0)
        self.assertEqual(promises, PROMISES)
        self.assertEqual((len(broken(CLOCK, promises)), len(latest_times(CLOCK, promises)[0])), (3, 11))
        with self.assertRaises(TypeError):
            broken(CLOCK, promises, False)


class BoundTest(Case):
    def test_twelve_trains_and_a_thousand_promises(self):
        plan = great_plan()
        clock = Clock(plan, [[Span(10 ** 12 - 1, 10 ** 12)] * 20] * 12, [[10 ** 12] * 20] * 12, clearing=10 ** 12)
        promises = [(at % 12, at % 20, 10 ** 12) for at in range(1000)]
        self.assertGreater(len(self.quick(broken, clock, promises, seconds=1)), 900)
        self.assertGreater(self.quick(greatest_lateness, clock, promises, seconds=1), 10 ** 13)
        self.quick(latest_times, clock, promises, seconds=1)
        self.assertEqual(self.quick(harmless, clock, promises, 0, 0, seconds=1), -1)
        kept = [(train, step, 10 ** 15) for train, step, _ in promises]
        last = clock.times()[11][39]
        self.assertEqual(self.quick(harmless, clock, kept, 0, 0, seconds=1), 10 ** 15 - last)

    def test_one_block(self):
        clock = Clock(Plan(Layout([1], []), [Train([0])], [[0]]), [[Span(2, 3)]], [[4]], starts=[5])
        self.assertEqual(latest_times(clock, [(0, 0, 8)]), [[5, 8, None]])
        self.assertEqual([harmless(clock, [(0, 0, latest)], 0, 0) for latest in (6, 7, 8, 20)], [-1, 0, 1, 13])


if __name__ == "__main__":
    unittest.main()
