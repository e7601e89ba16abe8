"""[52]: the worst that a few delayed runs can do, and how far one delay reaches."""

import random
import unittest

from railhouse.chains import is_chain
from railhouse.clock import Clock
from railhouse.delays import reach, worst
from railhouse.errors import NoEvent, NoStep, NoTrain
from railhouse.plans import Plan
from railhouse.spans import Span
from railhouse.trains import Train
from tests.plain_clock import CLOCK, busy_terms
from tests.plain_plans import ALIVE, CHAIN, SHUTTLE, all_events, great_plan
from tests.support import GREAT, Case, no_blocks


class WorstTest(Case):
    def check_worst(self, terms, event, count, found):
        """Check that the chain and the delayed runs give the time, as [52] says."""
        time, chain, delayed = found
        self.assertEqual((chain[-1], chain[0][1]), (event, 0))
        self.assertTrue(len(chain) == 1 or is_chain(terms.plan, chain))
        self.assertEqual(delayed, sorted(set(delayed)))
        self.assertLessEqual(len(delayed), count)
        gaps, total = terms.gaps(terms.delayed(delayed)), terms.start(chain[0][0])
        steps = list(zip(chain, chain[1:]))
        for pair in steps:
            total += gaps[pair]
        self.assertEqual(total, time)
        for train, step in delayed:
            self.assertIn(((train, 2 * step), (train, 2 * step + 1)), steps)

    def test_a_count_of_0(self):
        self.assertEqual(worst(CLOCK, (0, 3), 0), (11, [(0, 0), (0, 1), (0, 2), (0, 3)], []))
        for train, number in all_events(ALIVE):
            time, _, delayed = worst(CLOCK, (train, number), 0)
            self.assertEqual((time, delayed), (CLOCK.times()[train][number], []))

    def test_a_great_count(self):
        for count in (10, 11, 12, 10 ** 12, GREAT):
            for train, number in all_events(ALIVE):
                self.assertEqual(worst(CLOCK, (train, number), count)[0], CLOCK.times(late=True)[train][number])

    def test_a_few(self):
        self.assertEqual([worst(CLOCK, (0, 10), count)[0] for count in range(7)], [30, 31, 32, 33, 34, 35, 35])
        self.assertEqual(worst(CLOCK, (0, 1), 1), (6, [(0, 0), (0, 1)], [(0, 0)]))

    def test_the_greatest_width_counts(self):
        runs = [[Span(5, 6), Span(5, 9), Span(5, 5), Span(5, 7), Span(5, 25)], [Span(5, 5)] * 5]
        clock = Clock(ALIVE, runs, [[1] * 5] * 2, clearing=2)
        self.assertEqual(worst(clock, (0, 9), 2)[0::2], (29 + 24, [(0, 1), (0, 4)]))
        self.assertEqual(worst(clock, (0, 8), 1)[0::2], (24 + 4, [(0, 1)]))
        self.assertEqual(worst(clock, (1, 9), 1)[0::2], (54 + 20, [(0, 4)]))

    def test_another_way_is_longer_with_delays(self):
        # Without delays train 1 comes late by its own start; with one delay it waits for train 0.
        plan = Plan(CHAIN, [Train([0, 1]), Train([2, 1])], [[], [0, 1], [], [], []])
        clock = Clock(plan, [[Span(2, 30), Span(2, 2)], [Span(2, 4), Span(2, 2)]], [[0, 0]] * 2, starts=[0, 10])
        self.assertEqual(worst(clock, (1, 2), 0), (12, [(1, 0), (1, 1), (1, 2)], []))
        self.assertEqual(worst(clock, (1, 2), 1), (32, [(0, 0), (0, 1), (0, 2), (0, 3), (0, 4), (1, 2)], [(0, 0)]))
        self.assertEqual(worst(clock, (1, 0), 9), (10, [(1, 0)], []))

    def test_an_event_0_behind_a_turn(self):
        clock = Clock(SHUTTLE, [[Span(3, 5)] * 3] * 3, [[0] * 3] * 3, starts=[0, 0, 99], turning=1)
        chain = [(0, number) for number in range(7)] + [(1, 0)]
        self.assertEqual(worst(clock, (1, 0), 9), (16, chain, [(0, 0), (0, 1), (0, 2)]))
        self.assertEqual(worst(clock, (2, 0), 9), (99, [(2, 0)], []))

    def test_against_a_search_of_all_choices(self):
        checked = 0
        for terms in [terms for terms in busy_terms(60, size=4) if len(terms.all_steps()) < 10]:
            for count in (0, 1, 2, 3, 50):
                choices = [terms.times(terms.delayed(some)) for some in terms.few_delays(count)]
                for event in all_events(terms.plan)[::3] + [(terms.plan.size - 1, 0)]:
                    found = worst(terms.clock, event, count)
                    self.assertEqual(found[0], max(times[event] for times in choices))
                    self.check_worst(terms, event, count, found)
                    checked += 1
        self.assertGreater(checked, 1000)

    def test_errors(self):
        for train in no_blocks(2):
            self.refused(NoTrain, {"train": train}, worst, CLOCK, (train, 99), 1)
        for number in (-1, 11, GREAT, -GREAT):
            self.refused(NoEvent, {"train": 1, "number": number}, worst, CLOCK, (1, number), 1)

    def test_by_name_and_new(self):
        time, chain, delayed = worst(clock=CLOCK, event=(0, 3), count=9)
        self.assertEqual((time, len(chain), delayed), (13, 4, [(0, 0), (0, 1)]))
        chain.clear()
        delayed.clear()
        self.assertEqual(len(worst(CLOCK, (0, 3), 9)[1]), 4)


class ReachTest(Case):
    def test_an_amount_of_0(self):
        for train in range(2):
            for step in range(5):
                self.assertEqual(reach(CLOCK, train, step, 0), [])

    def test_all_that_follows(self):
        self.assertEqual(reach(CLOCK, 0, 0, 3), [(0, number, 3) for number in range(1, 11)]
                         + [(1, number, 3) for number in range(2, 11)])
        self.assertEqual(reach(CLOCK, 1, 4, 3), [(1, 9, 3), (1, 10, 3)])

    def test_a_delay_that_waiting_takes_up(self):
        self.assertEqual(reach(CLOCK, 1, 0, 25), [(1, 1, 25)])
        self.assertEqual(reach(CLOCK, 1, 0, 26)[:3], [(1, 1, 26), (1, 2, 1), (1, 3, 1)])

    def test_out_of_the_span(self):
        self.assertEqual(reach(CLOCK, 1, 4, 10 ** 12), [(1, 9, 10 ** 12), (1, 10, 10 ** 12)])
        self.assertEqual(CLOCK.run_span(1, 4), Span(5, 6))

    def test_by_chance(self):
        shorter = 0
        for terms in busy_terms(40):
            lows = terms.times(terms.picked(False))
            for train, step in terms.all_steps():
                for amount in (1, 4, random.Random(terms.seed + step).randint(5, 20)):
                    running = terms.picked(False)
                    running[train][step] += amount
                    times = terms.times(running)
                    wanted = sorted((*event, times[event] - lows[event]) for event in lows if times[event] > lows[event])
                    self.assertEqual(reach(terms.clock, train, step, amount), wanted)
                    shorter += any(shift < amount for _, _, shift in wanted)
        self.assertGreater(shorter, 30)

    def test_errors(self):
        for train in no_blocks(2):
            self.refused(NoTrain, {"train": train}, reach, CLOCK, train, 99, 1)
        for step in (-1, 5, GREAT, -GREAT):
            self.refused(NoStep, {"train": 1, "number": step}, reach, CLOCK, 1, step, 0)

    def test_by_name_and_new(self):
        reach(clock=CLOCK, train=0, step=0, amount=3).clear()
        self.assertEqual(len(reach(CLOCK, 0, 0, 3)), 19)
        self.assertEqual(CLOCK.times()[1][10], 55)


class BoundTest(Case):
    def test_twelve_trains(self):
        plan = great_plan()
        clock = Clock(plan, [[Span(10 ** 12 - 1, 10 ** 12)] * 20] * 12, [[10 ** 12] * 20] * 12, clearing=10 ** 12)
        late, early = clock.times(late=True)[11][40], clock.times()[11][40]
        for count in (0, 1, 17, 100, 239, 240, 241, 10 ** 12, GREAT):
            time, chain, delayed = self.quick(worst, clock, (11, 40), count, seconds=2)
            self.assertEqual(time, min(early + count, late))
            self.assertEqual(len(delayed), min(count, late - early))
            self.assertTrue(is_chain(plan, chain))
        self.assertEqual(len(self.quick(reach, clock, 0, 0, 10 ** 12, seconds=1)), 40 + 11 * 41)


if __name__ == "__main__":
    unittest.main()
