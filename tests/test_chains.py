"""[36]: chains, what comes before what, and lists that are chains."""

import unittest

from railhouse.chains import chain, comes_before, is_chain
from railhouse.errors import NoEvent, NoTrain
from railhouse.layout import Layout
from railhouse.plans import Plan
from railhouse.trains import Train
from tests.plain_plans import ALIVE, CHAIN, DEAD, RING_OF_TURNS, SHUTTLE, TRAINS, all_events, busy_plan, busy_plans
from tests.plain_plans import chance_plan, great_plan, picture, plain_afters, plain_chain, plain_pairs
from tests.support import Case, no_blocks


class ChainTest(Case):
    def test_a_chain_over_two_trains(self):
        self.assertEqual(chain(ALIVE, (0, 5), (1, 6)), [(0, 5), (0, 6), (0, 7), (1, 6)])
        self.assertEqual(chain(ALIVE, (0, 0), (0, 2)), [(0, 0), (0, 1), (0, 2)])
        self.assertEqual(chain(ALIVE, (0, 7), (1, 6)), [(0, 7), (1, 6)])
        self.assertEqual(chain(ALIVE, (0, 9), (1, 2)), [(0, 9), (1, 2)])

    def test_no_chain(self):
        self.assertIsNone(chain(ALIVE, (1, 10), (0, 0)))
        self.assertIsNone(chain(ALIVE, (1, 0), (0, 10)))
        self.assertIsNone(chain(ALIVE, (0, 3), (0, 2)))
        self.assertIsNone(chain(ALIVE, (0, 0), (1, 0)))

    def test_from_an_event_to_itself(self):
        for event in all_events(ALIVE):
            self.assertIsNone(chain(ALIVE, event, event))
        # The two trains stand against each other, and each waits for the other one.
        self.assertEqual(chain(DEAD, (0, 6), (0, 6)), [(0, 6), (0, 7), (1, 6), (1, 7), (0, 6)])
        self.assertEqual(chain(DEAD, (1, 7), (1, 7)), [(1, 7), (0, 6), (0, 7), (1, 6), (1, 7)])
        self.assertIsNone(chain(DEAD, (0, 5), (0, 5)))
        self.assertIsNone(chain(DEAD, (0, 8), (0, 8)))
        # The order of the block takes the ring past the first turn, not past the second one.
        self.assertEqual(chain(RING_OF_TURNS, (0, 3), (0, 3)), [
            (0, 3), (0, 4), (0, 5), (1, 2), (1, 3), (1, 4), (1, 5), (1, 6), (0, 0), (0, 1), (0, 2), (0, 3),
        ])

    def test_through_a_ring_of_a_dead_plan(self):
        self.assertEqual(chain(DEAD, (0, 5), (1, 8)), [(0, 5), (0, 6), (0, 7), (1, 6), (1, 7), (1, 8)])
        self.assertIsNone(chain(DEAD, (0, 8), (1, 8)))

    def test_turns(self):
        self.assertEqual(chain(SHUTTLE, (0, 5), (1, 0)), [(0, 5), (0, 6), (1, 0)])
        # The order of the block is quicker than the turn.
        self.assertEqual(chain(SHUTTLE, (0, 4), (1, 2)), [(0, 4), (0, 5), (1, 2)])

    def test_the_least_of_several_shortest_chains(self):
        # The last event of train 0 frees two blocks at once, and the last train waits for both of the others.
        layout = Layout([1, 1, 1], [(0, 1), (0, 2), (1, 2)])
        trains = [Train([0, 1], length=9), Train([0, 2]), Train([1]), Train([1, 2])]
        plan = Plan(layout, trains, [[0, 1], [0, 2, 3], [1, 3]])
        over_one = [(0, 4), (1, 0), (1, 1), (1, 2), (1, 3), (1, 4), (3, 2)]
        self.assertEqual(chain(plan, (0, 4), (3, 2)), over_one)
        self.assertTrue(is_chain(plan, [(0, 4), (2, 0), (2, 1), (2, 2), (3, 0), (3, 1), (3, 2)]))
        other = Plan(layout, [trains[0], trains[2], trains[1], trains[3]], [[0, 2], [0, 1, 3], [2, 3]])
        over_one = [(0, 4), (1, 0), (1, 1), (1, 2), (3, 0), (3, 1), (3, 2)]
        self.assertEqual(chain(other, (0, 4), (3, 2)), over_one)
        self.assertTrue(is_chain(other, [(0, 4), (2, 0), (2, 1), (2, 2), (2, 3), (2, 4), (3, 2)]))

    def test_a_shorter_chain_goes_before_a_lesser_one(self):
        layout = Layout([1, 1, 1], [(0, 1), (1, 2)])
        trains = [Train([0, 1, 2], length=9), Train([1, 2]), Train([1]), Train([1, 2])]
        plan = Plan(layout, trains, [[0], [0, 2, 1, 3], [0, 1, 3]])
        self.assertEqual(chain(plan, (0, 6), (1, 2)), [(0, 6), (1, 2)])
        self.assertEqual(chain(plan, (0, 6), (1, 0)), [(0, 6), (2, 0), (2, 1), (2, 2), (1, 0)])

    def test_by_chance(self):
        # The last plans have many pairs of events with several shortest chains.
        for plan in busy_plans(20) + [chance_plan(seed) for seed in range(5)] + [busy_plan(seed, 4) for seed in (2, 11)]:
            afters = plain_afters(plan)
            for first in all_events(plan):
                for second in all_events(plan):
                    found = chain(plan, first, second)
                    self.assertIs(comes_before(plan, first, second), second in afters[first])
                    self.assertEqual(found, plain_chain(plan, first, second))
                    self.assertEqual(found is None, second not in afters[first])
                    if found:
                        self.assertIs(is_chain(plan, found), True)

    def test_a_plan_is_dead_exactly_if_an_event_comes_before_itself(self):
        for alive in (True, False):
            for plan in busy_plans(20, alive=alive):
                own = [event for event in all_events(plan) if chain(plan, event, event)]
                self.assertEqual(own == [], alive)

    def test_errors(self):
        for call in (chain, comes_before):
            for train in no_blocks(2):
                self.refused(NoTrain, {"train": train}, call, ALIVE, (train, 99), (7, 0))
                self.refused(NoTrain, {"train": train}, call, DEAD, (1, 10), (train, 99))
            for number in (-1, 11, 12, 10 ** 12):
                self.refused(NoEvent, {"train": 1, "number": number}, call, ALIVE, (1, number), (7, 0))
                self.refused(NoEvent, {"train": 0, "number": number}, call, ALIVE, (1, 0), (0, number))

    def test_by_name_and_new(self):
        found = chain(plan=ALIVE, first=(0, 5), second=(1, 6))
        found.clear()
        self.assertEqual(len(chain(ALIVE, (0, 5), (1, 6))), 4)
        self.assertIs(comes_before(plan=ALIVE, first=(0, 5), second=(1, 6)), True)
        self.assertIs(comes_before(ALIVE, (0, 5), (0, 5)), False)
        self.assertIs(comes_before(DEAD, (0, 6), (0, 6)), True)


class IsChainTest(Case):
    def test_chains(self):
        for events in ([(0, 5), (0, 6), (0, 7), (1, 6)], [(0, 0), (0, 1)], [(0, 9), (1, 2)]):
            self.assertIs(is_chain(ALIVE, events), True)
        self.assertIs(is_chain(DEAD, [(0, 6), (0, 7), (1, 6), (1, 7)] * 3), True)
        self.assertIs(is_chain(SHUTTLE, [(0, 6), (1, 0), (1, 1)]), True)

    def test_too_short(self):
        self.assertIs(is_chain(ALIVE, []), False)
        self.assertIs(is_chain(ALIVE, [(0, 0)]), False)

    def test_events_that_do_not_directly_precede(self):
        for events in ([(0, 0), (0, 2)], [(0, 1), (0, 0)], [(0, 0), (0, 0)], [(0, 0), (0, 1), (0, 1)],
                       [(0, 0), (0, 1), (0, 2), (1, 2)], [(0, 0), (1, 1)], [(1, 7), (0, 6)]):
            self.assertIs(is_chain(ALIVE, events), False)

    def test_entries_that_are_no_events(self):
        for bad in [(train, 0) for train in no_blocks(2)] + [(0, 11), (0, -1), (1, 10 ** 12), (-1, -1)]:
            self.assertIs(is_chain(ALIVE, [bad]), False)
            self.assertIs(is_chain(ALIVE, [(0, 0), (0, 1), bad]), False)
            self.assertIs(is_chain(ALIVE, [bad, (0, 0), (0, 1)]), False)
        self.assertIs(is_chain(ALIVE, [(0, 10), (0, 11)]), False)
        self.assertIs(is_chain(ALIVE, [(0, -1), (0, 0)]), False)

    def test_by_chance(self):
        for plan in busy_plans(20):
            pairs = plain_pairs(plan)
            for first in all_events(plan):
                for second in all_events(plan):
                    self.assertIs(is_chain(plan, [first, second]), (first, second) in pairs)

    def test_arguments_are_not_modified(self):
        events = [(0, 0), (0, 1)]
        is_chain(plan=ALIVE, events=events)
        self.assertEqual(events, [(0, 0), (0, 1)])
        before = picture(ALIVE)
        chain(ALIVE, (0, 0), (1, 10))
        self.assertEqual(picture(ALIVE), before)


class BoundTest(Case):
    def test_twelve_trains(self):
        plan = great_plan()
        found = self.quick(chain, plan, (0, 0), (11, 40), seconds=1)
        # It is shortest to stay with train 0: each train frees the last block with its last event.
        self.assertEqual(found[:41], [(0, number) for number in range(41)])
        self.assertEqual(found[41:], [(train, number) for train in range(1, 12) for number in (38, 39, 40)])
        self.assertIsNone(self.quick(chain, plan, (11, 40), (0, 0), seconds=1))
        self.assertTrue(self.quick(comes_before, plan, (0, 39), (11, 40), seconds=1))

    def test_long_lists(self):
        ring = [(0, 6), (0, 7), (1, 6), (1, 7)] * 250
        self.assertTrue(self.quick(is_chain, DEAD, ring, seconds=1))
        self.assertFalse(self.quick(is_chain, Plan(CHAIN, TRAINS, [[], [1, 0], [], [1, 0], []]), ring, seconds=1))


if __name__ == "__main__":
    unittest.main()
