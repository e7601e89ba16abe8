"""[46] to [49]: the clock, its times, the driving by time, and what explains a time."""

import random
import unittest

from railhouse.chains import is_chain
from railhouse.clock import Clock, critical, timed_driving
from railhouse.drives import is_driving
from railhouse.errors import BadTimes, NoEvent, NoGap, NoStep, NotAlive, NoTrain, OutOfSpan, RailError
from railhouse.exchanges import exchange
from railhouse.layout import Layout
from railhouse.plans import Plan
from railhouse.rings import is_alive, run_out, standstill
from railhouse.spans import Span
from railhouse.trains import Train
from tests.plain_clock import CLOCK, DWELLS, RUNS, Terms, busy_terms
from tests.plain_plans import ALIVE, CHAIN, DEAD, EMPTY, IDLE, RING_OF_TURNS, SHUTTLE, all_events, busy_plans, great_plan
from tests.plain_plans import picture, plain_pairs, plain_run_out
from tests.support import GREAT, Case, no_blocks

# Three trains of three steps, one behind the other with turns.
THREE = {"runs": [[Span(3, 5)] * 3] * 3, "dwells": [[1, 2, 0]] * 3}


def great_clock(low=10 ** 12 - 9, high=10 ** 12):
    plan = great_plan()
    return Clock(plan, [[Span(low, high)] * 20] * 12, [[10 ** 12] * 20] * 12, starts=[10 ** 12] * 12,
                 clearing=10 ** 12, turning=10 ** 12)


class ClockTest(Case):
    def test_example(self):
        self.assertEqual(CLOCK.times(), [[0, 5, 6, 11, 12, 17, 18, 23, 24, 29, 30],
                                         [0, 5, 31, 36, 37, 42, 43, 48, 49, 54, 55]])
        self.assertEqual(CLOCK.times(late=True), [[0, 6, 7, 13, 14, 20, 21, 27, 28, 34, 35],
                                                  [0, 6, 36, 42, 43, 49, 50, 56, 57, 63, 64]])

    def test_attributes(self):
        clock = Clock(ALIVE, RUNS, DWELLS, clearing=3, turning=4)
        self.assertEqual((clock.clearing, clock.turning, picture(clock.plan)), (3, 4, picture(ALIVE)))
        plain = Clock(plan=ALIVE, runs=RUNS, dwells=DWELLS)
        self.assertEqual((plain.clearing, plain.turning), (0, 0))
        with self.assertRaises(TypeError):
            Clock(ALIVE, RUNS, DWELLS, [0, 0])

    def test_starts(self):
        left_out = Clock(ALIVE, RUNS, DWELLS, clearing=2).times()
        for starts in ([], (), [0, 0], (0, 0)):
            self.assertEqual(Clock(ALIVE, RUNS, DWELLS, starts=starts, clearing=2).times(), left_out)
        for starts in ([4, 40], (4, 40)):
            times = Clock(ALIVE, RUNS, DWELLS, starts=starts, clearing=2).times()
            self.assertEqual((times[0][0], times[0][10], times[1][0], times[1][2]), (4, 34, 40, 46))

    def test_turning_and_clearing(self):
        clock = Clock(SHUTTLE, **THREE, clearing=1, turning=10, starts=[0, 30, 3])
        self.assertEqual(clock.times(), [[0, 3, 4, 7, 9, 12, 12], [30, 33, 34, 37, 39, 42, 42], [52, 55, 56, 59, 61, 64, 64]])
        self.assertEqual([clock.gap((0, 6), (1, 0)), clock.gap((1, 5), (2, 2))], [10, 1])

    def test_a_block_is_cleared_at_the_beginning_of_a_train(self):
        # The next train begins in the plain block itself, so this is no turn.
        plan = Plan(Layout([1], []), [Train([0])] * 2, [[1, 0]])
        clock = Clock(plan, [[Span(5, 5)]] * 2, [[1]] * 2, clearing=3, turning=100)
        self.assertEqual(clock.times(), [[9, 14, 15], [0, 5, 6]])
        self.assertEqual(clock.gap((1, 2), (0, 0)), 3)

    def test_a_turn_and_a_cleared_block_of_the_same_trains(self):
        long = [Train([0, 1, 2], length=51), Train([2, 1, 0])]
        plan = Plan(CHAIN, long, [[], [0, 1], [], [], []], turns=[(0, 1)])
        clock = Clock(plan, [[Span(5, 5)] * 3] * 2, [[0] * 3] * 2, clearing=3, turning=7)
        self.assertEqual((clock.gap((0, 6), (1, 0)), clock.gap((0, 6), (1, 2))), (7, 3))
        self.assertEqual(clock.times()[1][:3], [22, 27, 27])
        slow = Clock(plan, [[Span(5, 5)] * 3] * 2, [[0] * 3] * 2, clearing=30, turning=7)
        self.assertEqual(slow.times()[1][:3], [22, 27, 45])

    def test_without_trains(self):
        for plan in (IDLE, EMPTY):
            clock = Clock(plan, [], [])
            self.assertEqual((clock.times(), clock.times(late=True), clock.times_with([])), ([], [], []))
            self.assertEqual((timed_driving(clock), timed_driving(clock, late=True)), ([], []))
            self.refused(NoTrain, {"train": 0}, clock.span, 0, 0)
            self.refused(NoTrain, {"train": 0}, critical, clock, (0, 0))
            self.refused(BadTimes, {"train": 0}, Clock, plan, [[]], [])
            self.refused(BadTimes, {"train": 0}, Clock, plan, [], [], starts=[5])
            self.refused(BadTimes, {"train": 0}, Clock, plan, [], [[]], starts=())
            self.refused(BadTimes, {"train": 0}, clock.times_with, [[]])


class ConstructorErrorTest(Case):
    def test_not_alive(self):
        self.refused(NotAlive, {"ring": [0, 1]}, Clock, DEAD, [], [], starts=[1])
        self.refused(NotAlive, {"ring": [0, 1]}, Clock, RING_OF_TURNS, [[Span(0, 0)]], [[-1]])
        for plan in busy_plans(20, alive=False):
            self.refused(NotAlive, {"ring": standstill(plan)[2]}, Clock, plan, [], [])
        with self.assertRaises(RailError) as caught:
            Clock(DEAD, RUNS, DWELLS)
        caught.exception.ring.clear()
        self.refused(NotAlive, {"ring": [0, 1]}, Clock, DEAD, RUNS, DWELLS)

    def test_runs(self):
        good = [Span(5, 6)] * 5
        for row in ([], good[:4], good + [Span(1, 1)], [Span(0, 6)] + good[1:], good[:4] + [Span(-3, 3)]):
            self.refused(BadTimes, {"train": 0}, Clock, ALIVE, [row, good], DWELLS)
            self.refused(BadTimes, {"train": 1}, Clock, ALIVE, [good, row], DWELLS)
            self.refused(BadTimes, {"train": 0}, Clock, ALIVE, [row, row, row], [[]] * 3, starts=[-1] * 3)
        self.refused(BadTimes, {"train": 0}, Clock, ALIVE, [], DWELLS)
        self.refused(BadTimes, {"train": 1}, Clock, ALIVE, [good], DWELLS)
        self.assertEqual(Clock(ALIVE, [[Span(1, 1)] * 5] * 2, DWELLS).times()[0][:4], [0, 1, 2, 3])

    def test_dwells(self):
        for row in ([], [1] * 4, [1] * 6, [1, 1, -1, 1, 1], [1, 1, 1, 1, -GREAT]):
            self.refused(BadTimes, {"train": 0}, Clock, ALIVE, RUNS, [row, [1] * 5])
            self.refused(BadTimes, {"train": 1}, Clock, ALIVE, RUNS, [[1] * 5, row])
        self.refused(BadTimes, {"train": 0}, Clock, ALIVE, RUNS, [])
        self.refused(BadTimes, {"train": 1}, Clock, ALIVE, RUNS, [[1] * 5])
        self.assertEqual(Clock(ALIVE, RUNS, [[0] * 5] * 2).times()[0][:4], [0, 5, 5, 10])

    def test_starts(self):
        for starts, train in (([0], 1), ((7,), 1), ([-1, 0], 0), ([0, -1], 1), ((0, -GREAT), 1), ([-1], 0),
                              ([0, 0, 0], 2), ((0, 0, -1), 2), ([0, -1, 0], 1)):
            self.refused(BadTimes, {"train": train}, Clock, ALIVE, RUNS, DWELLS, starts=starts)

    def test_too_many(self):
        more = [Span(5, 6)] * 5
        self.refused(BadTimes, {"train": 2}, Clock, ALIVE, RUNS + [more], DWELLS)
        self.refused(BadTimes, {"train": 2}, Clock, ALIVE, RUNS + [[], []], DWELLS + [[]])
        self.refused(BadTimes, {"train": 2}, Clock, ALIVE, RUNS, DWELLS + [[1] * 5])
        self.refused(BadTimes, {"train": 2}, Clock, ALIVE, RUNS, DWELLS, starts=[0] * 5)

    def test_a_train_stands_before_too_many(self):
        self.refused(BadTimes, {"train": 1}, Clock, ALIVE, RUNS + [[]], [[1] * 5, [1] * 4, []])
        self.refused(BadTimes, {"train": 1}, Clock, ALIVE, RUNS + [[]], DWELLS, starts=[0, -1, 0])
        self.refused(BadTimes, {"train": 0}, Clock, ALIVE, [RUNS[0], []], [[], [1] * 5])

    def test_the_least_train_of_all_lists(self):
        self.refused(BadTimes, {"train": 0}, Clock, ALIVE, [RUNS[0]], DWELLS, starts=[-1, 0])
        self.refused(BadTimes, {"train": 0}, Clock, ALIVE, [RUNS[0]], [[1]] * 2, starts=[0])
        self.refused(BadTimes, {"train": 1}, Clock, ALIVE, RUNS, [[1] * 5], starts=[0, 0])


class TimesTest(Case):
    def test_against_slow_times(self):
        for terms in busy_terms(40):
            chance = random.Random(terms.seed)
            for late in (False, True):
                self.assertEqual(terms.clock.times(late=late), terms.rows(terms.picked(late)))
            for choice in terms.choices(chance, 5):
                self.assertEqual(terms.clock.times_with(choice), terms.rows(choice))

    def test_no_event_can_be_earlier_and_all_gaps_are_kept(self):
        for terms in busy_terms(20):
            times = terms.clock.times()
            for (first, second), gap in terms.gaps(terms.picked(False)).items():
                self.assertGreaterEqual(times[second[0]][second[1]], times[first[0]][first[1]] + gap)

    def test_every_choice_lies_in_the_span(self):
        for terms in [terms for terms in busy_terms(30, many=2) if len(terms.all_steps()) < 9]:
            found = [terms.rows(choice) for choice in terms.all_choices()]
            for train, number in all_events(terms.plan):
                span = terms.clock.span(train, number)
                times = [rows[train][number] for rows in found]
                self.assertEqual((span.low, span.high), (min(times), max(times)))

    def test_span(self):
        spans = [[CLOCK.span(train, number) for number in range(11)] for train in range(2)]
        self.assertEqual([[span.low for span in row] for row in spans], CLOCK.times())
        self.assertEqual([[span.high for span in row] for row in spans], CLOCK.times(late=True))
        self.assertEqual(CLOCK.span(train=1, number=10), Span(55, 64))
        self.assertEqual(CLOCK.span(0, 0).width, 0)
        for train in no_blocks(2):
            self.refused(NoTrain, {"train": train}, CLOCK.span, train, 99)
        for number in (-1, 11, GREAT, -GREAT):
            self.refused(NoEvent, {"train": 1, "number": number}, CLOCK.span, 1, number)

    def test_run_span(self):
        for terms in busy_terms(5):
            for train, step in terms.all_steps():
                self.assertEqual(terms.clock.run_span(train, step), terms.runs[train][step])
        self.assertEqual(CLOCK.run_span(train=0, step=4), Span(5, 6))
        for train in no_blocks(2):
            self.refused(NoTrain, {"train": train}, CLOCK.run_span, train, 99)
        for step in (-1, 5, GREAT, -GREAT):
            self.refused(NoStep, {"train": 1, "number": step}, CLOCK.run_span, 1, step)


class ChoiceTest(Case):
    def test_bad_times(self):
        good = [5] * 5
        for row in ([], good[:4], good + [5]):
            self.refused(BadTimes, {"train": 0}, CLOCK.times_with, [row, row, row])
            self.refused(BadTimes, {"train": 1}, CLOCK.times_with, [good, row])
            self.refused(BadTimes, {"train": 1}, CLOCK.times_with, [[9] * 5, row, good])
        self.refused(BadTimes, {"train": 0}, CLOCK.times_with, [])
        self.refused(BadTimes, {"train": 1}, CLOCK.times_with, [good])
        self.refused(BadTimes, {"train": 2}, CLOCK.times_with, [good, good, good])
        self.refused(BadTimes, {"train": 2}, CLOCK.times_with, [good, good, [], []])

    def test_out_of_span_stands_behind_all_bad_times(self):
        self.refused(BadTimes, {"train": 1}, CLOCK.times_with, [[9] * 5, [5] * 4])
        self.refused(BadTimes, {"train": 2}, CLOCK.times_with, [[9] * 5, [5] * 5, [5] * 5])

    def test_out_of_span(self):
        for wrong in (4, 7, 0, -5, GREAT, -GREAT):
            self.refused(OutOfSpan, {"train": 0, "number": 0}, CLOCK.times_with, [[wrong] * 5, [wrong] * 5])
            self.refused(OutOfSpan, {"train": 0, "number": 4}, CLOCK.times_with, [[5, 6, 5, 6, wrong], [wrong] * 5])
            self.refused(OutOfSpan, {"train": 1, "number": 2}, CLOCK.times_with, [[5] * 5, [5, 6, wrong, 5, wrong]])
        self.assertEqual(CLOCK.times_with([[5, 6, 5, 6, 5], [6] * 5])[0], [0, 5, 6, 12, 13, 18, 19, 25, 26, 31, 32])


class GapTest(Case):
    def test_kinds(self):
        self.assertEqual([CLOCK.gap((0, 0), (0, 1)), CLOCK.gap((0, 0), (0, 1), late=True)], [5, 6])
        self.assertEqual([CLOCK.gap((0, 9), (0, 10)), CLOCK.gap((0, 9), (0, 10), late=True)], [1, 1])
        self.assertEqual([CLOCK.gap((0, 9), (1, 2)), CLOCK.gap((0, 9), (1, 2), late=True)], [2, 2])

    def test_all_pairs(self):
        for terms in busy_terms(15):
            for late in (False, True):
                gaps = terms.gaps(terms.picked(late))
                for first in all_events(terms.plan):
                    for second in all_events(terms.plan):
                        if (first, second) in gaps:
                            self.assertEqual(terms.clock.gap(first, second, late=late), gaps[(first, second)])
                        else:
                            self.refused(NoGap, {"first": first, "second": second},
                                         terms.clock.gap, first, second, late=late)

    def test_errors(self):
        for train in no_blocks(2):
            self.refused(NoTrain, {"train": train}, CLOCK.gap, (train, 99), (7, 99))
            self.refused(NoTrain, {"train": train}, CLOCK.gap, (0, 0), (train, 99))
        for number in (-1, 11, GREAT, -GREAT):
            self.refused(NoEvent, {"train": 1, "number": number}, CLOCK.gap, (1, number), (7, 0))
            self.refused(NoEvent, {"train": 1, "number": number}, CLOCK.gap, (1, 0), (1, number))
        self.refused(NoGap, {"first": (0, 0), "second": (0, 0)}, CLOCK.gap, (0, 0), (0, 0))
        self.refused(NoGap, {"first": (0, 1), "second": (0, 0)}, CLOCK.gap, (0, 1), (0, 0))
        self.refused(NoGap, {"first": (1, 9), "second": (0, 2)}, CLOCK.gap, first=(1, 9), second=(0, 2), late=True)


class OverTest(Case):
    def test_another_plan(self):
        terms = [terms for terms in busy_terms(60) if terms.plan.size == 3]
        many = 0
        for one in terms:
            for block in range(one.plan.layout.size):
                for place in range(len(one.plan.order(block)) - 1):
                    other = exchange(one.plan, block, place)
                    if is_alive(other):
                        found = one.clock.over(other)
                        wanted = Clock(other, one.runs, one.dwells, starts=one.starts, clearing=one.clearing,
                                       turning=one.turning)
                        self.assertEqual((found.times(), found.times(late=True)),
                                         (wanted.times(), wanted.times(late=True)))
                        self.assertEqual((found.clearing, found.turning), (one.clearing, one.turning))
                        self.assertEqual(picture(found.plan), picture(other))
                        many += 1
                    else:
                        self.refused(NotAlive, {"ring": standstill(other)[2]}, one.clock.over, other)
        self.assertGreater(many, 10)

    def test_turning_and_starts_are_kept(self):
        clock = Clock(Plan(CHAIN, [SHUTTLE.train_of(train) for train in range(3)], [[], [0, 1, 2], [], [], []]),
                      **THREE, starts=[0, 9, 9], clearing=1, turning=10)
        self.assertEqual(clock.over(plan=SHUTTLE).times(), Clock(SHUTTLE, **THREE, starts=[0, 9, 9], clearing=1,
                                                                 turning=10).times())

    def test_errors(self):
        self.refused(NotAlive, {"ring": [0, 1]}, CLOCK.over, DEAD)
        short = Plan(CHAIN, [Train([0, 1, 2, 3, 4]), Train([4, 3])], [[], [0], [], [0, 1], []])
        self.refused(BadTimes, {"train": 1}, CLOCK.over, short)
        self.refused(BadTimes, {"train": 1}, CLOCK.over, Plan(CHAIN, [Train([0, 1, 2, 3, 4])], [[], [0], [], [0], []]))
        self.refused(BadTimes, {"train": 0}, CLOCK.over, IDLE)
        three = Plan(CHAIN, [Train([0, 1, 2, 3, 4])] * 3, [[], [0, 1, 2], [], [0, 1, 2], []])
        self.refused(BadTimes, {"train": 2}, CLOCK.over, three)
        self.assertEqual(CLOCK.times()[1][10], 55)


class TimedDrivingTest(Case):
    def test_in_the_order_of_time(self):
        driving = timed_driving(CLOCK)
        self.assertEqual(driving[:6], [0, 1, 0, 1, 0, 0])
        self.assertEqual(driving, [0, 1, 0, 1] + [0] * 9 + [1] * 9)
        self.assertTrue(is_driving(ALIVE, driving))

    def test_equal_times_stand_as_in_run_out(self):
        plan = Plan(Layout([1, 1], []), [Train([0]), Train([1])], [[0], [1]])
        clock = Clock(plan, [[Span(1, 2)], [Span(1, 1)]], [[0], [0]])
        self.assertEqual(run_out(plan), [0, 0, 0, 1, 1, 1])
        self.assertEqual(timed_driving(clock), [0, 1, 0, 0, 1, 1])
        self.assertEqual(timed_driving(clock, late=True), [0, 1, 1, 1, 0, 0])
        # Train 1 goes first in run_out, though its number is the greater one.
        waits = Plan(Layout([1], []), [Train([0]), Train([0])], [[1, 0]])
        self.assertEqual(timed_driving(Clock(waits, [[Span(1, 1)]] * 2, [[0]] * 2)), [1, 1, 1, 0, 0, 0])

    def test_by_chance(self):
        ties = 0
        for terms in busy_terms(40):
            ranks = {}
            for at, train in enumerate(plain_run_out(terms.plan)):
                ranks[(train, sum(1 for other, _ in ranks if other == train))] = at
            for late in (False, True):
                times = terms.times(terms.picked(late))
                events = sorted(times, key=lambda event: (times[event], ranks[event]))
                self.assertEqual(timed_driving(terms.clock, late=late), [train for train, _ in events])
                self.assertTrue(is_driving(terms.plan, timed_driving(terms.clock, late=late)))
                ties += len(times) - len(set(times.values()))
        self.assertGreater(ties, 50)


class CriticalTest(Case):
    def test_example(self):
        found = critical(CLOCK, (1, 3))
        self.assertEqual(found, [(0, number) for number in range(10)] + [(1, 2), (1, 3)])
        self.assertEqual(found[8:], [(0, 8), (0, 9), (1, 2), (1, 3)])

    def test_an_event_0(self):
        self.assertEqual(critical(CLOCK, (1, 0)), [(1, 0)])
        shuttle = Clock(SHUTTLE, **THREE, turning=10, starts=[0, 0, 100])
        self.assertEqual(critical(shuttle, (1, 0)), [(0, number) for number in range(7)] + [(1, 0)])
        self.assertEqual(critical(shuttle, (2, 0)), [(2, 0)])

    def test_it_stops_where_the_start_explains_the_time_too(self):
        # Train 0 leaves at 12, so train 1 begins at 22 in both ways.
        clock = Clock(SHUTTLE, **THREE, turning=10, starts=[0, 22, 0])
        self.assertEqual(clock.times()[1][0], 22)
        self.assertEqual(critical(clock, (1, 0)), [(1, 0)])
        self.assertEqual(critical(clock, (1, 2)), [(1, 0), (1, 1), (1, 2)])

    def test_the_least_of_several_events_that_explain_one_time(self):
        plan = Plan(CHAIN, [Train([0, 1]), Train([0, 1])], [[], [0, 1], [], [], []])
        clock = Clock(plan, [[Span(3, 3)] * 2] * 2, [[0, 1]] * 2, starts=[0, 5], clearing=1)
        # Train 1 can enter block 1 at 8, as train 0 has left it at 7, and as it has come to the end of block 0 at 8.
        self.assertEqual(clock.times(), [[0, 3, 3, 6, 7], [5, 8, 8, 11, 12]])
        self.assertEqual(critical(clock, (1, 2)), [(0, number) for number in range(5)] + [(1, 2)])
        swapped = Plan(CHAIN, [Train([0, 1]), Train([0, 1])], [[], [1, 0], [], [], []])
        other = Clock(swapped, [[Span(3, 3)] * 2] * 2, [[0, 1]] * 2, starts=[5, 0], clearing=1)
        self.assertEqual(critical(other, (0, 2)), [(0, 0), (0, 1), (0, 2)])

    def test_by_chance(self):
        several = 0
        plain = busy_terms(30)
        # Where one train begins later and later, it meets the others at equal times now and then.
        tight = [terms.restarted([start] + [0] * (terms.plan.size - 1)) for terms in plain for start in range(25)]
        for terms in plain + tight:
            pairs = plain_pairs(terms.plan)
            for late in (False, True):
                times, gaps = terms.times(terms.picked(late)), terms.gaps(terms.picked(late))
                for event in all_events(terms.plan):
                    wanted = [event]
                    while not (wanted[0][1] == 0 and times[wanted[0]] == terms.start(wanted[0][0])):
                        reasons = sorted(first for first, second in pairs if second == wanted[0]
                                         and times[first] + gaps[(first, second)] == times[second])
                        several += len(reasons) > 1
                        wanted.insert(0, reasons[0])
                    found = critical(terms.clock, event, late=late)
                    self.assertEqual(found, wanted)
                    self.assertTrue(len(found) == 1 or is_chain(terms.plan, found))
        self.assertGreater(several, 20)

    def test_errors(self):
        for train in no_blocks(2):
            self.refused(NoTrain, {"train": train}, critical, CLOCK, (train, 99))
        for number in (-1, 11, GREAT, -GREAT):
            self.refused(NoEvent, {"train": 1, "number": number}, critical, CLOCK, (1, number), late=True)


class CopyTest(Case):
    def test_arguments_are_copied_and_not_modified(self):
        runs, dwells, starts = [list(row) for row in RUNS], [list(row) for row in DWELLS], [3, 4]
        clock = Clock(ALIVE, runs, dwells, starts=starts, clearing=2)
        self.assertEqual((runs, dwells, starts), (RUNS, DWELLS, [3, 4]))
        times = clock.times()
        runs[0][0] = Span(50, 60)
        runs[1].clear()
        runs.pop()
        dwells[0][0] = 99
        dwells.clear()
        starts[0] = 7
        self.assertEqual(clock.times(), times)
        starts.clear()
        self.assertEqual((times[0][0], times[1][0], times[0][10]), (3, 4, 33))
        self.assertEqual((clock.times(), clock.over(ALIVE).times()), (times, times))
        choice = [[5] * 5, [6] * 5]
        clock.times_with(choice=choice)
        self.assertEqual(choice, [[5] * 5, [6] * 5])

    def test_results_are_new(self):
        times = CLOCK.times()
        times[0].clear()
        times.clear()
        CLOCK.times(late=True)[1].clear()
        CLOCK.times_with([[5] * 5] * 2)[0].clear()
        timed_driving(clock=CLOCK).clear()
        critical(clock=CLOCK, event=(1, 3)).clear()
        self.assertEqual((CLOCK.times()[1][10], CLOCK.times(late=True)[1][10]), (55, 64))
        self.assertEqual((len(timed_driving(CLOCK)), len(critical(CLOCK, (1, 3)))), (22, 12))

    def test_the_plan_stays_as_it_was(self):
        before = picture(SHUTTLE)
        clock = Clock(SHUTTLE, **THREE, turning=10)
        critical(clock, (2, 6))
        timed_driving(clock)
        self.assertEqual(picture(SHUTTLE), before)


class BoundTest(Case):
    def test_twelve_trains_and_great_times(self):
        clock = self.quick(great_clock, seconds=1)
        plan = clock.plan
        times = self.quick(clock.times, late=True, seconds=1)
        terms = Terms(plan, 1)
        terms.runs, terms.dwells = [[Span(10 ** 12, 10 ** 12)] * 20] * 12, [[10 ** 12] * 20] * 12
        terms.starts, terms.clearing = [10 ** 12] * 12, 10 ** 12
        self.assertEqual(times, terms.rows(terms.picked(True)))
        self.assertEqual(self.quick(clock.span, 11, 40, seconds=1).high, times[11][40])
        self.assertEqual(len(self.quick(timed_driving, clock, seconds=1)), 492)
        self.assertEqual(self.quick(critical, clock, (11, 40), seconds=1)[-1], (11, 40))
        self.assertEqual(self.quick(clock.times_with, terms.picked(True), seconds=1), times)
        self.assertEqual(self.quick(clock.over, plan, seconds=1).times(late=True), times)
        self.assertEqual(self.quick(clock.gap, (10, 40), (11, 38), seconds=1), 10 ** 12)

    def test_long_lists(self):
        self.refused(BadTimes, {"train": 2}, Clock, ALIVE, (RUNS * 500)[:1000], (DWELLS * 500)[:1000], starts=[0] * 1000)
        self.refused(BadTimes, {"train": 0}, Clock, ALIVE, [[Span(1, 1)] * 1000] * 1000, DWELLS)


if __name__ == "__main__":
    unittest.main()
