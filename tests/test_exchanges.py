"""[37] and [38]: exchanges, barring chains, mending and needed pairs."""

import unittest

from railhouse.chains import is_chain
from railhouse.errors import NoBlock, NoPlace, NotAlive, RailError
from railhouse.exchanges import barring_chain, exchange, mending, needed
from railhouse.layout import Layout
from railhouse.plans import Plan
from railhouse.rings import is_alive, standstill
from railhouse.trains import Train, releases
from tests.plain_plans import ALIVE, CHAIN, DEAD, IDLE, RING_OF_TURNS, SHUTTLE, SHUTTLES, TRAINS, all_events, busy_plan
from tests.plain_plans import busy_plans, chance_plan, great_dead_plan, great_plan, picture, plain_afters, plain_chain
from tests.plain_plans import plain_pairs, plain_run_out
from tests.support import GREAT, Case, no_blocks


def orders_of(plan):
    return [plan.order(block) for block in range(plan.layout.size)]


def all_places(plan):
    return [(block, place) for block, order in enumerate(orders_of(plan)) for place in range(len(order) - 1)]


def stay_at(plan, train, block):
    """Return the entry and the release of the train at the block, as events."""
    step = plan.train_of(train).blocks().index(block)
    return (train, 2 * step), (train, releases(plan.layout, plan.train_of(train))[step])


def lives(plan):
    return len(plain_run_out(plan)) == plan.total


class ExchangeTest(Case):
    def test_a_new_plan(self):
        plan = exchange(DEAD, 3, 0)
        self.assertEqual(orders_of(plan), [[], [0, 1], [], [0, 1], []])
        self.assertEqual(picture(plan), picture(ALIVE))
        self.assertEqual(orders_of(exchange(ALIVE, 1, 0)), [[], [1, 0], [], [0, 1], []])

    def test_places_in_a_longer_order(self):
        layout = Layout([1, 1], [(0, 1)])
        plan = Plan(layout, [Train([0])] * 4, [[2, 0, 3, 1], []])
        self.assertEqual([exchange(plan, 0, place).order(0) for place in range(3)],
                         [[0, 2, 3, 1], [2, 3, 0, 1], [2, 0, 1, 3]])

    def test_turns_and_lengths_are_kept(self):
        plan = exchange(SHUTTLE, 1, 1)
        self.assertEqual((plan.turns(), plan.order(1)), ([(0, 1), (1, 2)], [0, 2, 1]))
        self.assertEqual([plan.train_of(train).length for train in range(3)], [1, 1, 1])
        self.assertFalse(is_alive(plan))

    def test_the_plan_stays_as_it_was(self):
        for plan in (ALIVE, DEAD, SHUTTLE):
            before = picture(plan)
            exchange(plan, 1, 0)
            mending(plan)
            self.assertEqual(picture(plan), before)

    def test_twice_gives_the_same_plan(self):
        for plan in busy_plans(20):
            for block, place in all_places(plan):
                self.assertEqual(picture(exchange(exchange(plan, block, place), block, place)), picture(plan))

    def test_no_block_and_no_place(self):
        for call in (exchange, barring_chain):
            for plan in (ALIVE, DEAD):
                for block in no_blocks(5):
                    self.refused(NoBlock, {"block": block}, call, plan, block, -1)
                for place in (-1, -2, 1, 2, 10 ** 12, GREAT, -GREAT):
                    self.refused(NoPlace, {"block": 1, "at": place}, call, plan, 1, place)
                for block in (0, 2, 4):
                    self.refused(NoPlace, {"block": block, "at": 0}, call, plan, block, 0)
            alone = Plan(CHAIN, [Train([1])], [[], [0], [], [], []])
            self.refused(NoPlace, {"block": 1, "at": 0}, call, alone, 1, 0)
            self.refused(NoPlace, {"block": 3, "at": 0}, call, alone, 3, 0)
            self.refused(NoPlace, {"block": 1, "at": -1}, call, alone, 1, -1)
            self.refused(NoPlace, {"block": 1, "at": 0}, call, IDLE, 1, 0)

    def test_by_name(self):
        self.assertEqual(exchange(plan=DEAD, block=3, place=0).order(3), [0, 1])


class BarringChainTest(Case):
    def test_an_exchange_that_keeps_the_plan_alive(self):
        # Both trains run the same way over one section, and nobody else does.
        plan = Plan(CHAIN, [Train([0, 1, 2]), Train([0, 1, 2])], [[], [0, 1], [], [], []])
        self.assertIsNone(barring_chain(plan, 1, 0))
        self.assertTrue(is_alive(exchange(plan, 1, 0)))

    def test_an_exchange_that_kills_it(self):
        found = barring_chain(ALIVE, 1, 0)
        # From the entry of train 0 over the other section to the release of train 1.
        self.assertEqual(found, [(0, 2), (0, 3), (0, 4), (0, 5), (0, 6), (0, 7), (0, 8), (0, 9), (1, 2), (1, 3), (1, 4),
                                 (1, 5), (1, 6), (1, 7), (1, 8), (1, 9)])
        self.assertFalse(is_alive(exchange(ALIVE, 1, 0)))
        # Train 1 has left block 3 only when it has reached the end of block 1, which train 0 frees at the end of block 3.
        self.assertEqual(barring_chain(ALIVE, 3, 0), [(0, 6), (0, 7), (1, 6), (1, 7)])
        self.assertFalse(is_alive(exchange(ALIVE, 3, 0)))

    def test_the_chain_of_a_turn(self):
        # Train 1 goes on with the stock of train 0, so it cannot go first.
        self.assertEqual(barring_chain(SHUTTLE, 1, 0),
                         [(0, 2), (0, 3), (0, 4), (0, 5), (0, 6), (1, 0), (1, 1), (1, 2), (1, 3), (1, 4), (1, 5)])

    def test_the_chain_may_hold_both_events_apart(self):
        # The release of train 0 at block 0 leads to train 1 by a way round, too.
        layout = Layout([1, 1, 1], [(0, 1), (1, 2)], yards=[2])
        plan = Plan(layout, [Train([0, 1, 2]), Train([1, 0])], [[0, 1], [0, 1], []])
        found = barring_chain(plan, 0, 0)
        self.assertEqual(found, [(0, 0), (0, 1), (0, 2), (0, 3), (0, 4), (0, 5), (1, 0), (1, 1), (1, 2), (1, 3), (1, 4)])
        self.assertIn((0, 3), found)
        self.assertIn((1, 2), found)

    def test_by_chance(self):
        alive = dead = 0
        plans = busy_plans(60, alive=True) + [busy_plan(seed, 4) for seed in range(12)]
        for plan in [plan for plan in plans if lives(plan)]:
            for block, place in all_places(plan):
                x, y = plan.order(block)[place:place + 2]
                entry_of_x, release_of_x = stay_at(plan, x, block)
                entry_of_y, release_of_y = stay_at(plan, y, block)
                found = barring_chain(plan, block, place)
                self.assertEqual(found is None, lives(exchange(plan, block, place)))
                self.assertEqual(found, plain_chain(plan, entry_of_x, release_of_y, (release_of_x, entry_of_y)))
                if found is None:
                    alive += 1
                else:
                    dead += 1
                    self.assertTrue(is_chain(plan, found))
                    self.assertNotIn((release_of_x, entry_of_y), list(zip(found, found[1:])))
        self.assertTrue(alive > 10 and dead > 10, (alive, dead))

    def test_not_alive(self):
        self.refused(NotAlive, {"ring": [0, 1]}, barring_chain, DEAD, 1, 0)
        self.refused(NotAlive, {"ring": [0, 1]}, barring_chain, RING_OF_TURNS, 1, 0)
        for plan in busy_plans(20, alive=False):
            for block, place in all_places(plan):
                self.refused(NotAlive, {"ring": standstill(plan)[2]}, barring_chain, plan, block, place)

    def test_by_name_and_new(self):
        barring_chain(plan=ALIVE, block=1, place=0).clear()
        self.assertEqual(len(barring_chain(ALIVE, 1, 0)), 16)


class MendingTest(Case):
    def test_example(self):
        self.assertEqual(mending(DEAD), [(1, 0), (3, 0)])

    def test_an_alive_plan(self):
        self.assertEqual(mending(ALIVE), [])
        self.assertEqual(mending(IDLE), [])
        # An exchange keeps this one alive, but does not mend it.
        self.assertEqual(mending(Plan(CHAIN, SHUTTLES[:1] * 2, [[], [0, 1], [], [], []])), [])

    def test_a_plan_that_no_exchange_mends(self):
        self.assertEqual(mending(RING_OF_TURNS), [])
        pairs = Plan(Layout([200, 100, 50, 100, 200] * 2, [(at, at + 1) for at in range(9)],
                            yards=[0, 2, 4, 5, 7, 9]),
                     [Train(way, length=70) for way in
                      ([0, 1, 2, 3, 4], [4, 3, 2, 1, 0], [5, 6, 7, 8, 9], [9, 8, 7, 6, 5])],
                     [[], [0, 1], [], [1, 0], [], [], [2, 3], [], [3, 2], []])
        self.assertEqual(mending(pairs), [])

    def test_one_of_many(self):
        self.assertEqual(mending(great_dead_plan()), [(10, 0)])

    def test_by_chance(self):
        mended = 0
        for plan in busy_plans(60, alive=False) + [chance_plan(seed) for seed in range(30)]:
            fits = [pair for pair in all_places(plan) if not lives(plan) and lives(exchange(plan, *pair))]
            self.assertEqual(mending(plan), fits)
            mended += len(fits)
        self.assertGreater(mended, 30)

    def test_new(self):
        mending(plan=DEAD).clear()
        self.assertEqual(mending(DEAD), [(1, 0), (3, 0)])


class NeededTest(Case):
    def test_example(self):
        self.assertEqual(needed(exchange(DEAD, 3, 0)), [(3, 0)])
        # Train 1 leaves block 3 before it wants block 1, and train 0 has left block 1 before block 3.
        self.assertEqual(needed(ALIVE), [(3, 0)])

    def test_no_pairs(self):
        self.assertEqual(needed(IDLE), [])
        self.assertEqual(needed(Plan(CHAIN, [Train([1])], [[], [0], [], [], []])), [])

    def test_a_turn_makes_a_pair_spare(self):
        self.assertEqual(needed(SHUTTLE), [])
        self.assertEqual(needed(Plan(CHAIN, SHUTTLES, [[], [0, 1, 2], [], [], []])), [(1, 0), (1, 1)])
        self.assertEqual(needed(Plan(CHAIN, SHUTTLES, [[], [0, 1, 2], [], [], []], turns=[(0, 1)])), [(1, 1)])

    def test_by_chance(self):
        spare = with_turns = 0
        for plan in busy_plans(60, alive=True) + [busy_plan(seed, 4) for seed in range(20)]:
            if not lives(plan):
                continue
            afters, fits, left = plain_afters(plan), [], []
            for block, place in all_places(plan):
                x, y = plan.order(block)[place:place + 2]
                release, entry = stay_at(plan, x, block)[1], stay_at(plan, y, block)[0]
                if any(entry in afters[middle] for middle in afters[release]):
                    spare += 1
                    with_turns += plan.turns() != []
                    left.append((release, entry))
                else:
                    fits.append((block, place))
            self.assertEqual(needed(plan), fits)
            # The pairs that are spare follow from the others.
            self.assertEqual(closed(plan, plain_pairs(plan) - set(left)), afters)
        self.assertTrue(spare > 20 and with_turns > 3, (spare, with_turns))

    def test_not_alive(self):
        self.refused(NotAlive, {"ring": [0, 1]}, needed, DEAD)
        for plan in busy_plans(20, alive=False):
            self.refused(NotAlive, {"ring": standstill(plan)[2]}, needed, plan)

    def test_the_ring_of_an_error_is_its_own(self):
        for call in (needed, lambda plan: barring_chain(plan, 1, 0)):
            with self.assertRaises(RailError) as caught:
                call(DEAD)
            caught.exception.ring.clear()
            self.refused(NotAlive, {"ring": [0, 1]}, call, DEAD)
        self.assertEqual(standstill(DEAD)[2], [0, 1])

    def test_new(self):
        needed(plan=ALIVE).clear()
        self.assertEqual(needed(ALIVE), [(3, 0)])


def closed(plan, pairs):
    """Return for each event the set of all events that these pairs lead to."""
    found = {event: set() for event in all_events(plan)}
    for _ in range(plan.total):
        for first, second in pairs:
            found[first] |= {second} | found[second]
    return found


class BoundTest(Case):
    def test_twelve_trains(self):
        plan, dead = great_plan(), great_dead_plan()
        # The last three blocks are freed by one event, so the first of them is enough.
        self.assertEqual(self.quick(needed, plan, seconds=3), [(block, place) for block in range(18) for place in range(11)])
        self.assertEqual(self.quick(mending, dead), [(10, 0)])
        self.assertIsNotNone(self.quick(barring_chain, plan, 10, 3, seconds=2))
        self.assertEqual(self.quick(exchange, plan, 10, 0, seconds=1).order(10), dead.order(10))


if __name__ == "__main__":
    unittest.main()
