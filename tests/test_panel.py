"""[21] to [25]: trains on a panel, deeds, their errors, undo, journal and questions."""

import copy
import random
import unittest

from railhouse import errors
from railhouse.errors import (
    BadWay, BlockTaken, NoBlock, NothingAhead, NothingBehind, NothingToCancel, NothingToUndo, NoTrain, PointLocked,
    RailError, TrainBusy, TrainKnown,
)
from railhouse.layout import Layout
from railhouse.panel import Panel
from tests.plain_panel import PlainPanel, Refused
from tests.support import GREAT, Case, chance_layout, everything, ladder, no_blocks

FORK = Layout([40, 40, 60, 60], [(0, 2), (0, 3), (1, 3)])
CHAIN = Layout([5] * 6, [(0, 1), (1, 2), (2, 3), (3, 4), (4, 5)])
# Block 3 lies beside the joint 0, 2 and beside the joint 1, 4.
TWIN = Layout([1] * 5, [(0, 2), (0, 3), (1, 3), (1, 4)])


def on_chain(*deeds):
    """Return a panel over the chain on which train 4 stands in block 0, eastward, and did these deeds."""
    panel = Panel(CHAIN)
    panel.place(4, 0, "east")
    for name, *rest in deeds:
        getattr(panel, name)(4, *rest)
    return panel


class DeedTest(Case):
    def test_example(self):
        panel = Panel(FORK)
        self.assertIsNone(panel.place(7, 1, "east"))
        self.assertIsNone(panel.request(7, [3]))
        self.assertEqual(panel.state(), ([(7, "east", (1,), (3,), (1,))], [(0, "east", 2), (3, "west", 1)]))

    def test_a_whole_run(self):
        panel = on_chain()
        self.assertEqual(panel.state(), ([(4, "east", (0,), (), ())], []))
        self.assertIsNone(panel.request(4, (1, 2)))
        self.assertEqual(panel.state()[0], [(4, "east", (0,), (1, 2), (2,))])
        panel.request(4, [3])
        self.assertEqual(panel.state()[0], [(4, "east", (0,), (1, 2, 3), (2, 1))])
        self.assertIsNone(panel.advance(4))
        self.assertEqual(panel.state()[0], [(4, "east", (0, 1), (2, 3), (1,))])
        panel.advance(4)
        self.assertEqual(panel.state()[0], [(4, "east", (0, 1, 2), (3,), (1,))])
        self.assertIsNone(panel.release(4))
        self.assertEqual(panel.state()[0], [(4, "east", (1, 2), (3,), (1,))])
        self.assertIsNone(panel.cancel(4))
        self.assertEqual(panel.state()[0], [(4, "east", (1, 2), (), ())])
        panel.release(4)
        self.assertIsNone(panel.withdraw(4))
        self.assertEqual(panel.state(), ([], []))

    def test_questions(self):
        panel = on_chain(("request", [1, 2]), ("advance",))
        panel.place(2, 5, "west")
        panel.request(2, [4])
        self.assertEqual(panel.trains(), [2, 4])
        self.assertEqual([panel.heading(2), panel.heading(4)], ["west", "east"])
        self.assertEqual([panel.occupied(4), panel.ahead(4), panel.requests(4)], [[0, 1], [2], []])
        self.assertEqual([panel.occupied(2), panel.ahead(2), panel.requests(2)], [[5], [4], [1]])
        self.assertEqual([panel.holders(block) for block in range(6)], [[4], [4], [4], [], [2], [2]])

    def test_a_yard_holds_any_number_of_trains(self):
        panel = Panel(everything(3))
        for train in (9, 3, 10 ** 12):
            panel.place(train, 0, "east")
        panel.request(3, [1])
        panel.request(9, [1])
        self.assertEqual(panel.holders(0), [3, 9, 10 ** 12])
        self.assertEqual(panel.holders(1), [3, 9])

    def test_a_train_in_one_block_has_the_heading_it_was_given(self):
        panel = Panel(CHAIN)
        panel.place(0, 3, "west")
        panel.request(0, [2, 1])
        self.assertEqual(panel.ahead(0), [2, 1])
        self.refused(BadWay, {"at": 0}, panel.request, 0, [2])

    def test_by_name(self):
        panel = Panel(layout=FORK, flank=False)
        panel.place(train=1, block=0, heading="east")
        panel.request(train=1, blocks=[2])
        self.assertEqual(panel.locks(), [(0, "east", 2)])
        self.assertEqual([panel.heading(train=1), panel.occupied(train=1), panel.ahead(train=1)], ["east", [0], [2]])
        self.assertEqual([panel.requests(train=1), panel.holders(block=2)], [[1], [1]])
        panel.cancel(train=1)
        panel.request(1, [3])
        panel.advance(train=1)
        panel.release(train=1)
        panel.withdraw(train=1)
        self.assertEqual(panel.trains(), [])
        with self.assertRaises(TypeError):
            Panel(FORK, False)


class LockTest(Case):
    def test_demands_stay_until_the_tail_leaves_the_first_block(self):
        panel = Panel(FORK)
        panel.place(7, 1, "east")
        panel.request(7, [3])
        locks = [(0, "east", 2), (3, "west", 1)]
        self.assertEqual(panel.locks(), locks)
        panel.advance(7)
        self.assertEqual(panel.locks(), locks)
        panel.release(7)
        self.assertEqual(panel.locks(), [])

    def test_demands_go_with_a_cancelled_request(self):
        panel = Panel(FORK)
        panel.place(7, 1, "east")
        panel.request(7, [3])
        panel.cancel(7)
        self.assertEqual(panel.locks(), [])

    def test_a_demand_that_two_trains_lock_stays_for_the_second_one(self):
        panel = Panel(FORK)
        panel.place(7, 1, "east")
        panel.place(8, 0, "east")
        panel.request(7, [3])
        panel.request(8, [2])
        self.assertEqual(panel.locks(), [(0, "east", 2), (3, "west", 1)])
        panel.cancel(7)
        self.assertEqual(panel.locks(), [(0, "east", 2), (3, "west", 1)])
        panel.cancel(8)
        self.assertEqual(panel.locks(), [])

    def test_without_flank(self):
        for flank, locks in ((False, [(3, "west", 1)]), (True, [(0, "east", 2), (3, "west", 1)])):
            panel = Panel(FORK, flank=flank)
            panel.place(7, 1, "east")
            panel.request(7, [3])
            self.assertEqual(panel.locks(), locks)

    def test_each_pair_keeps_its_own_demands(self):
        layout = Layout([1] * 5, [(0, 1), (1, 2), (1, 3), (2, 4), (3, 4)])
        panel = Panel(layout)
        panel.place(1, 0, "east")
        panel.request(1, [1, 2, 4])
        self.assertEqual(panel.locks(), [(1, "east", 2), (4, "west", 2)])
        panel.advance(1)
        panel.release(1)
        self.assertEqual(panel.locks(), [(1, "east", 2), (4, "west", 2)])
        panel.advance(1)
        panel.release(1)
        self.assertEqual(panel.locks(), [(4, "west", 2)])

    def test_on_the_way_in_one_call_and_in_two(self):
        # The west end of 3 is a point of 0 and 2. A way 0, 1, 2 in one call has 2 on the way when 0, 1 is asked for.
        layout = Layout([1] * 4, [(0, 1), (0, 3), (1, 2), (2, 3)])
        one = Panel(layout)
        one.place(1, 0, "east")
        one.request(1, [1, 2])
        self.assertEqual(one.locks(), [(0, "east", 1)])
        two = Panel(layout)
        two.place(1, 0, "east")
        two.request(1, [1])
        self.assertEqual(two.locks(), [(0, "east", 1), (3, "west", 2)])
        two.request(1, [2])
        self.assertEqual(two.locks(), [(0, "east", 1), (3, "west", 2)])
        self.assertEqual(one.state()[0][0][2:4], two.state()[0][0][2:4])

    def test_held_blocks_are_on_the_way(self):
        # The east end of 0 is a point of 1 and 3, so 3 - 4 asks it to be set to 1, unless 1 is held.
        layout = Layout([1] * 6, [(0, 4), (0, 1), (1, 2), (2, 3), (3, 4), (4, 5)])
        held = Panel(layout)
        held.place(1, 1, "east")
        held.request(1, [2, 3])
        held.request(1, [4])
        self.assertEqual(held.locks(), [(4, "west", 3)])
        left = Panel(layout)
        left.place(1, 2, "east")
        left.request(1, [3, 4])
        self.assertEqual(left.locks(), [(0, "east", 1), (4, "west", 3)])

    def test_a_block_that_was_left_is_not_on_the_way(self):
        layout = Layout([1] * 6, [(0, 4), (0, 1), (1, 2), (2, 3), (3, 4), (4, 5)])
        panel = Panel(layout)
        panel.place(1, 1, "east")
        panel.request(1, [2])
        panel.advance(1)
        panel.release(1)
        panel.request(1, [3, 4])
        self.assertEqual(panel.locks(), [(0, "east", 1), (4, "west", 3)])

    def test_two_flanks_that_want_one_point(self):
        panel = Panel(TWIN)
        panel.place(1, 0, "east")
        panel.place(2, 1, "east")
        panel.request(1, [2])
        self.assertEqual(panel.locks(), [(0, "east", 2), (3, "west", 1)])
        self.refused(PointLocked, {"block": 3, "side": "west"}, panel.request, 2, [4])
        panel.cancel(1)
        panel.request(2, [4])
        self.assertEqual(panel.locks(), [(1, "east", 4), (3, "west", 0)])
        self.refused(PointLocked, {"block": 3, "side": "west"}, panel.request, 1, [2])
        bare = Panel(TWIN, flank=False)
        bare.place(1, 0, "east")
        bare.place(2, 1, "east")
        bare.request(1, [2])
        self.assertIsNone(bare.request(2, [4]))
        self.assertEqual(bare.locks(), [(0, "east", 2), (1, "east", 4)])


    def test_the_least_of_two_points(self):
        # Twice the same as in TWIN, one behind the other: the train from 9 comes to the greater point first.
        layout = Layout([1] * 10, [*TWIN.joints(), (5, 7), (5, 8), (6, 8), (6, 9), (2, 5), (4, 6)])
        for first, blocks, second, others in ((0, [2, 5, 7], 9, [6, 4, 1]), (7, [5, 2, 0], 1, [4, 6, 9])):
            panel = Panel(layout)
            panel.place(1, first, "east" if first == 0 else "west")
            panel.place(2, second, "west" if second == 9 else "east")
            panel.request(1, blocks)
            self.assertEqual(panel.locks(), [(0, "east", 2), (3, "west", 1), (5, "east", 7), (8, "west", 6)])
            self.refused(PointLocked, {"block": 3, "side": "west"}, panel.request, 2, others)
            self.refused(PointLocked, {"block": 8 if second == 9 else 3, "side": "west"}, panel.request, 2, others[:-1])


class DeedErrorTest(Case):
    def setUp(self):
        self.panel = on_chain(("request", [1, 2]), ("advance",))
        self.panel.place(8, 5, "west")
        self.before = (self.panel.state(), self.panel.journal())

    def tearDown(self):
        self.assertEqual((self.panel.state(), self.panel.journal()), self.before)

    def test_place(self):
        self.refused(TrainKnown, {"train": 4}, self.panel.place, 4, 99, "east")
        for block in no_blocks(6):
            self.refused(NoBlock, {"block": block}, self.panel.place, 3, block, "west")
        for block, holder in ((0, 4), (1, 4), (2, 4), (5, 8)):
            self.refused(BlockTaken, {"block": block, "holder": holder}, self.panel.place, 3, block, "east")

    def test_no_train(self):
        for train in (3, 0, 10 ** 12, GREAT):
            values = {"train": train}
            self.refused(NoTrain, values, self.panel.request, train, [99])
            self.refused(NoTrain, values, self.panel.request, train, [])
            for method in (
                self.panel.advance, self.panel.release, self.panel.cancel, self.panel.withdraw,
                self.panel.heading, self.panel.occupied, self.panel.ahead, self.panel.requests,
            ):
                self.refused(NoTrain, values, method, train)

    def test_request(self):
        request = self.panel.request
        for block in no_blocks(6):
            self.refused(NoBlock, {"block": block}, request, 4, [5, block, 77])
        self.refused(BadWay, {"at": 0}, request, 4, [])
        self.refused(BadWay, {"at": 0}, request, 4, ())
        self.refused(BadWay, {"at": 0}, request, 4, [5])
        self.refused(BadWay, {"at": 0}, request, 4, [1])
        self.refused(BadWay, {"at": 0}, request, 4, [2])
        self.refused(BadWay, {"at": 1}, request, 4, [3, 5])
        self.refused(BadWay, {"at": 2}, request, 4, [3, 4, 3])
        self.refused(BadWay, {"at": 3}, request, 4, [3, 4, 5, 5])
        self.refused(BlockTaken, {"block": 5, "holder": 8}, request, 4, [3, 4, 5])
        self.refused(BlockTaken, {"block": 2, "holder": 4}, request, 8, [4, 3, 2, 1])
        self.refused(BadWay, {"at": 0}, request, 8, [3])

    def test_advance_and_release(self):
        self.refused(NothingAhead, {"train": 8}, self.panel.advance, 8)
        self.refused(NothingBehind, {"train": 8}, self.panel.release, 8)

    def test_release_of_a_train_with_blocks_ahead(self):
        panel = on_chain(("request", [1]))
        self.refused(NothingBehind, {"train": 4}, panel.release, 4)

    def test_withdraw(self):
        self.refused(TrainBusy, {"train": 4}, self.panel.withdraw, 4)
        self.refused(TrainBusy, {"train": 4}, on_chain(("request", [1])).withdraw, 4)
        self.refused(TrainBusy, {"train": 4}, on_chain(("request", [1]), ("advance",)).withdraw, 4)

    def test_holders(self):
        for block in no_blocks(6):
            self.refused(NoBlock, {"block": block}, self.panel.holders, block)


class CancelTest(Case):
    def test_nothing_to_cancel(self):
        for panel in (
            on_chain(),
            on_chain(("request", [1, 2]), ("advance",)),
            on_chain(("request", [1]), ("cancel",)),
            on_chain(("request", [1]), ("advance",), ("release",)),
        ):
            before = (panel.state(), panel.journal())
            self.refused(NothingToCancel, {"train": 4}, panel.cancel, 4)
            self.assertEqual((panel.state(), panel.journal()), before)

    def test_the_last_request_goes_first(self):
        panel = on_chain(("request", [1]), ("request", [2, 3]), ("request", [4]))
        self.assertEqual(panel.requests(4), [1, 2, 1])
        panel.cancel(4)
        self.assertEqual((panel.ahead(4), panel.requests(4)), ([1, 2, 3], [1, 2]))
        panel.cancel(4)
        self.assertEqual((panel.ahead(4), panel.requests(4)), ([1], [1]))
        panel.request(4, [2])
        self.assertEqual((panel.ahead(4), panel.requests(4)), ([1, 2], [1, 1]))

    def test_behind_an_entered_block(self):
        panel = on_chain(("request", [1, 2]), ("request", [3]), ("advance",))
        self.assertEqual(panel.requests(4), [1])
        panel.cancel(4)
        self.assertEqual((panel.occupied(4), panel.ahead(4), panel.requests(4)), ([0, 1], [2], []))
        self.refused(NothingToCancel, {"train": 4}, panel.cancel, 4)

    def test_requests_that_are_entered_one_by_one(self):
        panel = on_chain(("request", [1]), ("request", [2, 3]), ("request", [4]))
        found = []
        for _ in range(4):
            panel.advance(4)
            found.append(panel.requests(4))
        self.assertEqual(found, [[2, 1], [1], [1], []])


class UndoTest(Case):
    def test_each_kind_down_to_the_empty_panel(self):
        panel = Panel(FORK)
        deeds = [
            ("place", 7, 1, "east"), ("request", 7, (3,)), ("cancel", 7), ("request", 7, (3,)), ("place", 2, 0, "east"),
            ("advance", 7), ("request", 2, (2,)), ("release", 7), ("withdraw", 7), ("advance", 2),
        ]
        states = [panel.state()]
        for at, (name, *rest) in enumerate(deeds):
            getattr(panel, name)(*rest)
            self.assertEqual(panel.journal(), deeds[:at + 1])
            states.append(panel.state())
        for at in range(len(deeds) - 1, -1, -1):
            self.assertEqual(panel.undo(), deeds[at])
            self.assertEqual(panel.state(), states[at])
            self.assertEqual(panel.journal(), deeds[:at])
        self.refused(NothingToUndo, {}, panel.undo)
        self.assertEqual([panel.holders(block) for block in range(4)], [[]] * 4)

    def test_a_refused_deed_is_not_in_the_journal(self):
        panel = on_chain()
        self.refused(NothingAhead, {"train": 4}, panel.advance, 4)
        self.assertEqual(panel.journal(), [("place", 4, 0, "east")])
        self.assertEqual(panel.undo(), ("place", 4, 0, "east"))

    def test_a_list_is_written_as_a_tuple(self):
        panel = on_chain(("request", [1, 2]))
        self.assertEqual(panel.undo(), ("request", 4, (1, 2)))

    def test_undo_of_a_cancel_brings_back_the_old_demands(self):
        layout = Layout([1] * 4, [(0, 1), (0, 3), (1, 2), (2, 3)])
        panel = Panel(layout)
        panel.place(1, 0, "east")
        panel.request(1, [1])
        panel.request(1, [2])
        before = panel.state()
        panel.cancel(1)
        panel.cancel(1)
        panel.undo()
        panel.undo()
        self.assertEqual(panel.state(), before)


class CopyTest(Case):
    def test_arguments_are_copied(self):
        panel = on_chain()
        blocks = [1, 2]
        panel.request(4, blocks)
        blocks.append(3)
        blocks[0] = 5
        self.assertEqual(panel.ahead(4), [1, 2])
        self.assertEqual(panel.journal()[1], ("request", 4, (1, 2)))

    def test_results_are_new(self):
        panel = on_chain(("request", [1, 2]), ("advance",), ("request", [3]))
        before = copy.deepcopy((panel.state(), panel.journal()))
        for result in (
            panel.state()[0], panel.state()[1], panel.journal(), panel.trains(), panel.occupied(4), panel.ahead(4),
            panel.requests(4), panel.holders(0), panel.locks(),
        ):
            result.append(5)
        self.assertEqual((panel.state(), panel.journal()), before)
        self.assertEqual((panel.trains(), panel.holders(0), panel.locks()), ([4], [4], []))
        self.assertEqual((panel.occupied(4), panel.ahead(4), panel.requests(4)), ([0, 1], [2, 3], [1]))


class ChanceTest(Case):
    """Deeds by chance, on the panel and on the slow one of plain_panel.py."""

    def chance_deed(self, chance, panel, layout):
        train = chance.randrange(5)
        name = chance.choice(["place", "request", "request", "request", "advance", "advance", "release"] * 2
                             + ["cancel", "withdraw"])
        if name == "place":
            return name, train, chance.randrange(-1, layout.size + 1), chance.choice(["east", "west"])
        if name != "request":
            return name, train
        if chance.random() < 0.1 or train not in panel.trains():
            return name, train, [chance.randrange(-1, layout.size + 1) for _ in range(chance.randrange(3))]
        blocks, last = [], (panel.occupied(train) + panel.ahead(train))[-1]
        for _ in range(chance.randint(1, 3)):
            ends = layout.branches(last, panel.heading(train))
            if ends:
                last = chance.choice(ends)
                blocks.append(last)
        return name, train, blocks

    def outcome(self, panel, deed):
        name, *rest = deed
        try:
            return getattr(panel, name)(*rest)
        except Refused as refusal:
            return refusal.told
        except RailError as error:
            return type(error).__name__, tuple(vars(error).values())

    def check_always(self, panel, layout):
        points = [lock[:2] for lock in panel.locks()]
        self.assertEqual(len(points), len(set(points)))
        for block in range(layout.size):
            holders = [row[0] for row in panel.state()[0] if block in row[2] + row[3]]
            self.assertEqual(panel.holders(block), holders)
            self.assertTrue(layout.is_yard(block) or len(holders) <= 1)

    def walk(self, seed, seen):
        layout = chance_layout(seed, 10, 15, yards=0.15)
        chance = random.Random(seed)
        flank = seed % 4 > 0
        panel, plain = Panel(layout, flank=flank), PlainPanel(layout, flank)
        pasts = []
        for _ in range(80):
            if pasts and chance.random() < 0.08:
                deed, state, plain = pasts.pop()
                self.assertEqual(panel.undo(), deed)
                self.assertEqual(panel.state(), state)
            deed = self.chance_deed(chance, panel, layout)
            state, past, journal = panel.state(), copy.deepcopy(plain), panel.journal()
            told = self.outcome(plain, deed)
            self.assertEqual(self.outcome(panel, deed), told)
            if told is None:
                written = deed if deed[0] != "request" else (*deed[:2], tuple(deed[2]))
                pasts.append((written, state, past))
                self.assertEqual(panel.journal(), journal + [written])
            else:
                seen.add(told[0])
                self.assertEqual((panel.state(), panel.journal()), (state, journal))
            self.assertEqual(panel.state(), plain.state())
            self.check_always(panel, layout)
        while pasts:
            deed, state, _ = pasts.pop()
            self.assertEqual(panel.undo(), deed)
            self.assertEqual(panel.state(), state)
        self.assertEqual(panel.state(), ([], []))

    def test_walks(self):
        seen = set()
        for seed in range(150):
            self.walk(seed, seen)
        self.assertEqual(seen, {
            "TrainKnown", "NoBlock", "BlockTaken", "NoTrain", "BadWay", "PointLocked", "NothingAhead", "NothingBehind",
            "NothingToCancel", "TrainBusy",
        })
        for name in seen:
            self.assertTrue(hasattr(errors, name))


class BoundTest(Case):
    def test_long_requests(self):
        layout = ladder(30)
        panel = Panel(layout)
        panel.place(1, 0, "east")
        panel.place(2, 59, "west")
        self.quick(panel.request, 1, list(range(2, 60, 2)))
        self.quick(panel.request, 2, list(range(57, 0, -2)))
        self.assertEqual(len(panel.locks()), 116)
        for _ in range(29):
            panel.advance(1)
            panel.release(1)
        self.assertEqual(panel.occupied(1), [58])

    def test_many_trains_and_deeds(self):
        self.quick(self.many_deeds, everything(60), seconds=10)

    def many_deeds(self, layout):
        panel = Panel(layout)
        for train in range(1000):
            panel.place(train, 0, "east")
            panel.request(train, list(range(1, 60)))
        self.assertEqual(panel.holders(59), list(range(1000)))
        for train in range(1000):
            panel.advance(train)
        self.assertEqual(len(panel.state()[0]), 1000)
        for _ in range(3000):
            panel.undo()
        self.assertEqual(panel.state(), ([], []))

    def test_long_lists(self):
        panel = on_chain()
        self.refused(BadWay, {"at": 5}, panel.request, 4, [1, 2, 3, 4, 5] * 200)


if __name__ == "__main__":
    unittest.main()
