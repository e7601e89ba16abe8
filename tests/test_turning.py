"""[62]: the workings of a clock, the turns that they allow, and plans with other turns."""

import unittest

from railhouse.clock import Clock
from railhouse.errors import BadTurn
from railhouse.layout import Layout
from railhouse.plans import Plan
from railhouse.rings import is_alive
from railhouse.spans import Span
from railhouse.stock import is_linking, link
from railhouse.trains import Train
from railhouse.turning import clock_turns, clock_workings, with_turns
from tests.plain_clock import CLOCK, Terms, busy_terms
from tests.plain_lines import orders_of
from tests.plain_plans import ALIVE, CHAIN, DEAD, EMPTY, IDLE, RING_OF_TURNS, SHUTTLE, picture
from tests.support import GREAT, Case, no_blocks

# Four trains that run to and fro between the yards 0 and 2, without turns, each step in 5 to 9.
FOUR = Plan(CHAIN, [Train([0, 1, 2]), Train([2, 1, 0]), Train([0, 1, 2]), Train([2, 1, 0])],
            [[], [0, 1, 2, 3], [], [], []])


def four_clock(starts, **named):
    return Clock(FOUR, [[Span(5, 9)] * 3] * 4, [[0] * 3] * 4, starts=starts, **named)


def free_terms(count):
    """Return the terms of clocks over plans by chance that have no turns."""
    found = []
    for terms in busy_terms(count, many=5, size=4):
        trains = [terms.plan.train_of(train) for train in range(terms.plan.size)]
        found.append(Terms(Plan(terms.plan.layout, trains, orders_of(terms.plan)), terms.seed))
    return found


class WorkingsTest(Case):
    def test_both_ends_and_both_times(self):
        self.assertEqual(clock_workings(CLOCK), [(0, 4, 0, 30), (4, 0, 0, 55)])
        self.assertEqual(clock_workings(four_clock([3, 0, 0, 0])), [(0, 2, 3, 18), (2, 0, 0, 28), (0, 2, 0, 38), (2, 0, 0, 48)])

    def test_a_train_of_one_block(self):
        plan = Plan(CHAIN, [Train([1])], [[], [0], [], [], []])
        self.assertEqual(clock_workings(Clock(plan, [[Span(2, 9)]], [[4]], starts=[7])), [(1, 1, 7, 13)])

    def test_turns_of_the_plan_count_for_the_times(self):
        clock = Clock(SHUTTLE, [[Span(3, 5)] * 3] * 3, [[0] * 3] * 3, turning=10)
        self.assertEqual(clock_workings(clock), [(0, 2, 0, 9), (2, 0, 19, 28), (0, 2, 38, 47)])

    def test_without_trains(self):
        for plan in (EMPTY, IDLE):
            self.assertEqual((clock_workings(Clock(plan, [], [])), clock_turns(Clock(plan, [], []))), ([], []))

    def test_by_chance(self):
        for terms in busy_terms(40):
            times, wanted = terms.times(terms.picked(False)), []
            for train in range(terms.plan.size):
                runner = terms.plan.train_of(train)
                way = runner.blocks()
                wanted.append((way[0], way[-1], times[(train, 0)], times[(train, runner.last)]))
            self.assertEqual(clock_workings(terms.clock), wanted)


class TurnsTest(Case):
    def test_a_set_that_goes_to_and_fro(self):
        # Without waiting each train takes 15.
        self.assertEqual(clock_turns(four_clock([0, 15, 30, 45])), [(0, 1), (1, 2), (2, 3)])
        self.assertEqual(clock_turns(four_clock([0, 14, 30, 45])), [(0, 3), (1, 2)])
        self.assertEqual(clock_turns(four_clock([0, 15, 16, 45])), [(0, 1), (2, 3)])
        # Train 2 waits for train 1 in block 1, so it comes too late for train 3.
        self.assertEqual(clock_turns(four_clock([0, 99, 0, 99])), [(0, 1)])

    def test_turning(self):
        found = [clock_turns(four_clock([0, 17, 34, 51], turning=turning)) for turning in (0, 2, 3)]
        self.assertEqual(found, [[(0, 1), (1, 2), (2, 3)], [(0, 1), (1, 2), (2, 3)], [(0, 3)]])

    def test_a_goal_that_is_plain(self):
        layout = Layout([5] * 3, [(0, 1), (1, 2)], yards=[0])
        trains = [Train([0, 1, 2]), Train([2, 1, 0]), Train([0, 1])]
        plan = Plan(layout, trains, [[], [0, 1, 2], [0, 1]])
        clock = Clock(plan, [[Span(1, 1)] * train.steps for train in trains], [[0] * train.steps for train in trains],
                      starts=[0, 50, 100])
        self.assertEqual(link(clock_workings(clock)), [(0, 1), (1, 2)])
        self.assertEqual(clock_turns(clock), [(1, 2)])

    def test_a_plain_goal_uses_up_its_link(self):
        # The working that goes on from the plain block is no turn, and no other one takes its place.
        layout = Layout([5, 5], [(0, 1)])
        plan = Plan(layout, [Train([0, 1]), Train([1, 0])], [[0, 1], [0, 1]])
        clock = Clock(plan, [[Span(1, 1)] * 2] * 2, [[0] * 2] * 2, starts=[0, 50])
        self.assertEqual((link(clock_workings(clock)), clock_turns(clock)), ([(0, 1)], []))

    def test_turns_that_the_plan_has_are_found_again_or_others(self):
        clock = Clock(SHUTTLE, [[Span(3, 5)] * 3] * 3, [[0] * 3] * 3, turning=10)
        self.assertEqual(clock_turns(clock), [(0, 1), (1, 2)])
        # Train 2 starts when both others stand ready in its yard; train 0 does so first, but train 1 turns into it.
        trains = [Train([0, 1, 2]), Train([0, 1, 2]), Train([2, 3, 4])]
        plan = Plan(CHAIN, trains, [[], [0, 1], [], [2], []], turns=[(1, 2)])
        clock = Clock(plan, [[Span(3, 3)] * 3] * 3, [[0] * 3] * 3)
        self.assertEqual((plan.turns(), clock_turns(clock)), ([(1, 2)], [(0, 2)]))

    def test_alive_with_the_same_times(self):
        turns = 0
        for terms in free_terms(250):
            for starts in (terms.starts, [0] * terms.plan.size, [40 * train for train in range(terms.plan.size)]):
                clock = terms.restarted(starts).clock
                found = clock_turns(clock)
                workings = clock_workings(clock)
                linked = [(x, y) for x, y in link(workings, turning=clock.turning)
                          if terms.plan.layout.is_yard(workings[x][1])]
                self.assertEqual(found, linked)
                self.assertTrue(is_linking(workings, found, turning=clock.turning))
                plan = with_turns(clock.plan, found)
                self.assertTrue(is_alive(plan))
                self.assertEqual((plan.turns(), clock.over(plan).times()), (found, clock.times()))
                turns += len(found)
        self.assertGreater(turns, 100)


class WithTurnsTest(Case):
    def test_turns_are_replaced(self):
        plan = with_turns(SHUTTLE, [(1, 2)])
        self.assertEqual((plan.turns(), SHUTTLE.turns()), ([(1, 2)], [(0, 1), (1, 2)]))
        self.assertEqual(with_turns(SHUTTLE, []).turns(), [])
        self.assertEqual(with_turns(SHUTTLE, ()).turns(), [])
        self.assertEqual(with_turns(RING_OF_TURNS, [(0, 1)]).turns(), [(0, 1)])

    def test_all_else_is_the_same(self):
        for plan, turns in ((FOUR, [(2, 3), (0, 1)]), (FOUR, ((1, 2),)), (SHUTTLE, [(0, 1)]), (DEAD, []), (EMPTY, ())):
            trains = [plan.train_of(train) for train in range(plan.size)]
            wanted = Plan(plan.layout, trains, orders_of(plan), turns=turns)
            self.assertEqual(picture(with_turns(plan, turns)), picture(wanted))

    def test_a_dead_plan(self):
        plan = with_turns(SHUTTLE, [(1, 0), (0, 1)])
        self.assertFalse(is_alive(plan))

    def test_errors(self):
        for first, second in [(number, 0) for number in no_blocks(4)] + [(0, number) for number in no_blocks(4)]:
            self.refused(BadTurn, {"first": first, "second": second}, with_turns, FOUR, [(2, 3), (first, second)])
        for turns, (first, second) in (
            ([(0, 0)], (0, 0)), ([(0, 2)], (0, 2)), ([(0, 1), (0, 3)], (0, 3)), ([(0, 1), (2, 1)], (2, 1)),
            ([(0, 1), (0, 1)], (0, 1)), ([(2, 1), (3, 3), (0, 0)], (3, 3)), ([(0, GREAT)], (0, GREAT)),
        ):
            self.refused(BadTurn, {"first": first, "second": second}, with_turns, FOUR, turns)
        plain = Plan(Layout([5, 5], [(0, 1)]), [Train([0, 1]), Train([1, 0])], [[0, 1], [0, 1]])
        self.refused(BadTurn, {"first": 0, "second": 1}, with_turns, plain, [(0, 1)])


class CopyTest(Case):
    def test_nothing_is_modified_and_all_is_new(self):
        turns, clock = [(0, 1)], four_clock([0, 15, 30, 45])
        before = picture(FOUR)
        plan = with_turns(plan=FOUR, turns=turns)
        self.assertEqual(turns, [(0, 1)])
        turns.clear()
        plan.turns().clear()
        self.assertEqual((plan.turns(), picture(FOUR)), ([(0, 1)], before))
        clock_workings(clock=clock).clear()
        clock_turns(clock=clock).clear()
        self.assertEqual((len(clock_workings(clock)), clock_turns(clock)), (4, [(0, 1), (1, 2), (2, 3)]))


class BoundTest(Case):
    def test_twelve_trains(self):
        layout = Layout([10 ** 12] * 60, [(at, at + 1) for at in range(59)], yards=[0, 19])
        trains = [Train(list(range(20))[::1 - 2 * (at % 2)]) for at in range(12)]
        plan = Plan(layout, trains, [list(range(12)) if 0 < block < 19 else [] for block in range(60)])
        starts = [30 * 10 ** 12 * at for at in range(12)]
        clock = Clock(plan, [[Span(10 ** 12, 10 ** 12)] * 20] * 12, [[0] * 20] * 12, starts=starts, turning=10 ** 12)
        turns = self.quick(clock_turns, clock, seconds=1)
        self.assertEqual(turns, [(at, at + 1) for at in range(11)])
        self.assertTrue(is_alive(self.quick(with_turns, plan, turns, seconds=1)))
        self.assertEqual(ALIVE.turns(), [])


if __name__ == "__main__":
    unittest.main()
