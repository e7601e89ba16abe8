"""[41]: stays that are open at once."""

import random
import unittest

from railhouse.drives import is_driving
from railhouse.errors import NeverAtOnce, NoStep, NotAlive, NoTrain, RailError
from railhouse.layout import Layout
from railhouse.plans import Plan
from railhouse.rings import run_out, standstill
from railhouse.together import at_once
from railhouse.trains import Train, releases
from tests.plain_plans import ALIVE, CHAIN, DEAD, EMPTY, IDLE, RING_OF_TURNS, SHUTTLE, TRAINS, busy_plans, great_plan
from tests.plain_plans import picture, plain_afters, plain_moments, plain_open, plain_run_out
from tests.support import GREAT, Case, no_blocks


def all_stays(plan):
    return [(train, step) for train in range(plan.size) for step in range(plan.train_of(train).steps)]


def plain_driving(plan, stays):
    """Return the steps of run_out that are entries of the stays or come before them."""
    afters, counts, driving = plain_afters(plan), [0] * plan.size, []
    entries = [(train, 2 * step) for train, step in stays]
    for train in plain_run_out(plan):
        event = (train, counts[train])
        counts[train] += 1
        if event in entries or any(entry in afters[event] for entry in entries):
            driving.append(train)
    return driving


def plain_barriers(plan, stays):
    """Return all pairs of stays of which the first one ends before the second one begins, ascending."""
    afters, found = plain_afters(plan), []
    for train, step in stays:
        release = (train, releases(plan.layout, plan.train_of(train))[step])
        found += [((train, step), (other, later)) for other, later in stays if (other, 2 * later) in afters[release]]
    return sorted(found)


class AtOnceTest(Case):
    def test_example(self):
        self.assertEqual(at_once(ALIVE, [(0, 2), (1, 0)]), [0, 0, 0, 0, 0, 1])
        self.refused(NeverAtOnce, {"first": (0, 1), "second": (1, 3)}, at_once, ALIVE, [(1, 3), (0, 1)])

    def test_one_stay(self):
        self.assertEqual(at_once(ALIVE, [(0, 0)]), [0])
        self.assertEqual(at_once(ALIVE, [(0, 4)]), [0] * 9)
        # Train 1 can enter block 3 only behind train 0.
        self.assertEqual(at_once(ALIVE, [(1, 1)]), [0] * 10 + [1] * 3)

    def test_no_stays(self):
        self.assertEqual(at_once(ALIVE, []), [])
        self.assertEqual(at_once(IDLE, []), [])
        self.assertEqual(at_once(EMPTY, []), [])
        self.refused(NotAlive, {"ring": [0, 1]}, at_once, DEAD, [])

    def test_a_stay_that_is_listed_twice(self):
        self.assertEqual(at_once(ALIVE, [(0, 2), (1, 0), (0, 2), (0, 2)]), [0, 0, 0, 0, 0, 1])
        self.refused(NeverAtOnce, {"first": (0, 1), "second": (1, 3)}, at_once, ALIVE, [(1, 3), (1, 3), (0, 1), (0, 1)])

    def test_the_order_of_the_stays_does_not_matter(self):
        self.assertEqual(at_once(ALIVE, [(1, 0), (0, 2)]), [0, 0, 0, 0, 0, 1])

    def test_steps_in_the_order_of_run_out(self):
        plan = Plan(CHAIN, TRAINS, [[], [1, 0], [], [1, 0], []])
        self.assertEqual(at_once(plan, [(0, 0), (1, 0)]), [0, 1])
        self.assertEqual(at_once(plan, [(1, 2), (0, 0)]), [0, 1, 1, 1, 1, 1])
        self.assertEqual(at_once(plan, [(0, 1)]), [0, 0] + [1] * 10 + [0])

    def test_a_long_train_in_several_blocks(self):
        self.assertEqual(at_once(ALIVE, [(0, 1), (0, 2), (0, 3)]), [0] * 7)
        self.refused(NeverAtOnce, {"first": (0, 0), "second": (0, 2)}, at_once, ALIVE, [(0, 2), (0, 0), (0, 3)])

    def test_turns(self):
        self.refused(NeverAtOnce, {"first": (0, 2), "second": (1, 0)}, at_once, SHUTTLE, [(1, 0), (0, 2)])
        self.assertEqual(at_once(SHUTTLE, [(1, 1)]), [0] * 7 + [1] * 3)

    def test_the_least_pair(self):
        self.refused(NeverAtOnce, {"first": (0, 0), "second": (0, 2)}, at_once, ALIVE,
                     [(1, 4), (0, 4), (0, 2), (0, 1), (0, 0), (1, 2)])
        layout = Layout([1], [])
        plan = Plan(layout, [Train([0])] * 3, [[2, 1, 0]])
        self.refused(NeverAtOnce, {"first": (1, 0), "second": (0, 0)}, at_once, plan, [(0, 0), (1, 0), (2, 0)])
        self.refused(NeverAtOnce, {"first": (2, 0), "second": (0, 0)}, at_once, plan, [(2, 0), (0, 0)])

    def test_against_a_search_of_all_moments(self):
        found = never = 0
        for plan in busy_plans(50, alive=True) + busy_plans(10, alive=True, many=4):
            chance, moments = random.Random(plan.total), plain_moments(plan)
            listed = all_stays(plan)
            tries = [[stay] for stay in listed] + [[first, second] for first in listed for second in listed]
            tries += [[chance.choice(listed) for _ in range(chance.randint(3, 4))] for _ in range(30)]
            for stays in chance.sample(tries, min(60, len(tries))):
                fits = [done for done in moments if all(plain_open(plan, done, *stay) for stay in stays)]
                if fits:
                    driving = at_once(plan, stays)
                    self.assertEqual(driving, plain_driving(plan, stays))
                    self.assertTrue(is_driving(plan, driving))
                    self.assertIn(tuple(driving.count(train) for train in range(plan.size)), fits)
                    found += 1
                else:
                    first, second = plain_barriers(plan, stays)[0]
                    self.refused(NeverAtOnce, {"first": first, "second": second}, at_once, plan, stays)
                    never += 1
        self.assertTrue(found > 500 and never > 500, (found, never))

    def test_errors_entry_by_entry(self):
        for plan in (ALIVE, DEAD):
            for train in no_blocks(2):
                self.refused(NoTrain, {"train": train}, at_once, plan, [(0, 0), (train, 99), (0, 5)])
            for step in (-1, 5, 6, GREAT, -GREAT):
                self.refused(NoStep, {"train": 1, "number": step}, at_once, plan, [(0, 4), (1, step), (7, 0)])
            self.refused(NoStep, {"train": 0, "number": 5}, at_once, plan, [(0, 5), (2, 0)])
            self.refused(NoTrain, {"train": 2}, at_once, plan, [(2, 9), (0, 5)])

    def test_not_alive_stands_before_never_at_once(self):
        self.refused(NotAlive, {"ring": [0, 1]}, at_once, DEAD, [(0, 0), (0, 4)])
        self.refused(NotAlive, {"ring": [0, 1]}, at_once, RING_OF_TURNS, [(0, 0)])
        for plan in busy_plans(20, alive=False):
            self.refused(NotAlive, {"ring": standstill(plan)[2]}, at_once, plan, [(0, 0)])

    def test_errors_have_a_list_of_their_own(self):
        with self.assertRaises(RailError) as caught:
            at_once(DEAD, [])
        caught.exception.ring.clear()
        self.refused(NotAlive, {"ring": [0, 1]}, at_once, DEAD, [])

    def test_by_name_new_and_not_modified(self):
        stays, before = [(1, 0), (0, 2), (1, 0)], picture(ALIVE)
        at_once(plan=ALIVE, stays=stays).clear()
        self.assertEqual(stays, [(1, 0), (0, 2), (1, 0)])
        self.assertEqual(picture(ALIVE), before)
        self.assertEqual(at_once(ALIVE, stays), [0, 0, 0, 0, 0, 1])


class BoundTest(Case):
    def test_twelve_trains(self):
        plan = great_plan()
        self.assertEqual(self.quick(at_once, plan, [(11, 19)] * 1000, seconds=2),
                         plain_driving(plan, [(11, 19)]))
        self.refused(NeverAtOnce, {"first": (0, 0), "second": (0, 4)}, at_once, plan, all_stays(plan) * 4)

    def test_a_thousand_stays(self):
        layout = Layout([1] * 60, [(at, at + 1) for at in range(59)], yards=list(range(60)))
        plan = Plan(layout, [Train(list(range(20)), length=1000)] * 12, [[]] * 60)
        stays = (all_stays(plan) * 5)[:1000]
        self.assertEqual(self.quick(at_once, plan, stays, seconds=2), [train for train in range(12) for _ in range(39)])
        short = Plan(layout, [Train(list(range(20)))] * 12, [[]] * 60)
        self.assertEqual(len(run_out(short)), 492)
        self.quick(self.refused, NeverAtOnce, {"first": (0, 0), "second": (0, 2)}, at_once, short, stays, seconds=2)


if __name__ == "__main__":
    unittest.main()
