"""[26]: perform and replay."""

import random
import unittest

from railhouse.deeds import perform, replay
from railhouse.errors import (
    BadWay, BlockTaken, NoBlock, NothingAhead, NothingBehind, NothingToCancel, NoTrain, PointLocked, RailError,
    TrainBusy, TrainKnown,
)
from railhouse.layout import Layout
from railhouse.panel import Panel
from tests.support import Case, chance_layout, chance_ways, everything

TWIN = Layout([1] * 5, [(0, 2), (0, 3), (1, 3), (1, 4)])
RUN = [
    ("place", 1, 0, "east"), ("place", 2, 4, "west"), ("request", 1, (2,)), ("advance", 1), ("cancel", 9),
]
GOOD = [
    ("place", 1, 0, "east"), ("request", 1, (2,)), ("cancel", 1), ("request", 1, (3,)), ("advance", 1),
    ("release", 1), ("withdraw", 1), ("place", 1, 1, "east"), ("request", 1, (4,)),
]


class PerformTest(Case):
    def test_all_kinds_of_deeds(self):
        panel = Panel(TWIN)
        self.assertEqual(perform(panel, GOOD), 9)
        self.assertEqual(panel.journal(), GOOD)
        self.assertEqual(panel.state(), ([(1, "east", (1,), (4,), (1,))], [(1, "east", 4), (3, "west", 0)]))

    def test_no_deeds(self):
        panel = Panel(TWIN)
        self.assertEqual(perform(panel, []), 0)
        self.assertEqual(panel.journal(), [])

    def test_blocks_as_a_list(self):
        panel = Panel(TWIN)
        deeds = [("place", 1, 0, "east"), ("request", 1, [2])]
        self.assertEqual(perform(panel=panel, deeds=deeds), 2)
        deeds[1][2].append(9)
        self.assertEqual(panel.journal(), [("place", 1, 0, "east"), ("request", 1, (2,))])

    def test_behind_earlier_deeds(self):
        panel = Panel(TWIN)
        panel.place(7, 2, "west")
        self.assertEqual(perform(panel, [("request", 7, (0,)), ("advance", 7)]), 2)
        self.assertEqual(len(panel.journal()), 3)

    def test_a_list_that_fails_half_way(self):
        begun = [("place", 1, 0, "east"), ("place", 2, 1, "east"), ("request", 1, (2,))]
        for deed, error, values in (
            (("place", 1, 0, "east"), TrainKnown, {"train": 1}),
            (("place", 3, 5, "east"), NoBlock, {"block": 5}),
            (("place", 3, 2, "east"), BlockTaken, {"block": 2, "holder": 1}),
            (("request", 3, (2,)), NoTrain, {"train": 3}),
            (("request", 2, ()), BadWay, {"at": 0}),
            (("request", 2, (2,)), BadWay, {"at": 0}),
            (("request", 2, (4,)), PointLocked, {"block": 3, "side": "west"}),
            (("advance", 2), NothingAhead, {"train": 2}),
            (("release", 1), NothingBehind, {"train": 1}),
            (("cancel", 2), NothingToCancel, {"train": 2}),
            (("withdraw", 1), TrainBusy, {"train": 1}),
        ):
            panel = Panel(TWIN)
            panel.place(8, 4, "west")
            panel.withdraw(8)
            before = (panel.state(), panel.journal())
            deeds = begun + [deed, ("advance", 1)]
            self.refused(error, values, perform, panel, deeds)
            self.assertEqual((panel.state(), panel.journal()), before)
            self.assertEqual(deeds, begun + [deed, ("advance", 1)])
            self.assertEqual([panel.holders(block) for block in range(5)], [[]] * 5)
            self.assertEqual(perform(panel, begun), 3)

    def test_a_journal_performed_on_its_own_panel(self):
        panel = Panel(TWIN)
        perform(panel, GOOD)
        self.refused(TrainKnown, {"train": 1}, perform, panel, panel.journal())
        self.assertEqual(panel.journal(), GOOD)

    def test_a_thousand_deeds(self):
        panel = Panel(everything(60))
        deeds = [("place", train, train % 60, "east") for train in range(999)]
        self.assertEqual(self.quick(perform, panel, deeds), 999)
        self.refused(NothingAhead, {"train": 2000}, perform, panel, [
            *[("place", train, 0, "east") for train in range(1000, 1998)], ("place", 2000, 0, "west"), ("advance", 2000),
        ])
        self.assertEqual(len(panel.journal()), 999)


class ReplayTest(Case):
    def test_the_same_state(self):
        first = Panel(TWIN)
        perform(first, GOOD)
        second = replay(TWIN, first.journal())
        self.assertEqual((second.state(), second.journal()), (first.state(), first.journal()))
        self.assertEqual(replay(TWIN, []).state(), ([], []))

    def test_flank(self):
        deeds = [("place", 1, 0, "east"), ("request", 1, (2,))]
        self.assertEqual(replay(TWIN, deeds).locks(), [(0, "east", 2), (3, "west", 1)])
        self.assertEqual(replay(TWIN, deeds, flank=True).locks(), [(0, "east", 2), (3, "west", 1)])
        self.assertEqual(replay(layout=TWIN, deeds=deeds, flank=False).locks(), [(0, "east", 2)])

    def test_the_other_flank_may_refuse(self):
        panel = Panel(TWIN, flank=False)
        perform(panel, [("place", 1, 0, "east"), ("place", 2, 1, "east"), ("request", 1, (2,)), ("request", 2, (4,))])
        self.assertEqual(replay(TWIN, panel.journal(), flank=False).state(), panel.state())
        self.refused(PointLocked, {"block": 3, "side": "west"}, replay, TWIN, panel.journal())

    def test_what_the_deeds_raise(self):
        self.refused(NoTrain, {"train": 9}, replay, TWIN, RUN)
        self.refused(NoBlock, {"block": 77}, replay, TWIN, [("place", 1, 77, "east")])

    def test_arguments_are_not_modified(self):
        deeds = list(GOOD)
        panel = replay(TWIN, deeds)
        panel.undo()
        self.assertEqual(deeds, GOOD)
        deeds.clear()
        self.assertEqual(panel.journal(), GOOD[:-1])

    def test_equal_states_take_the_same_deeds(self):
        one = replay(TWIN, [("place", 1, 0, "east"), ("place", 2, 1, "east"), ("request", 1, (2,))])
        two = replay(Layout([1] * 5, [(1, 4), (1, 3), (0, 3), (0, 2)]), [
            ("place", 2, 1, "east"), ("request", 2, (3,)), ("cancel", 2), ("place", 1, 0, "east"), ("request", 1, (2,)),
        ])
        self.assertEqual(one.state(), two.state())
        for panel in (one, two):
            self.refused(PointLocked, {"block": 3, "side": "west"}, panel.request, 2, [4])

    def test_requests_in_every_order(self):
        several = 0
        for seed in range(120):
            layout = chance_layout(seed, 12, 18, yards=0.2)
            chance = random.Random(seed)
            ways = chance_ways(layout, seed, 40, shortest=2)
            panel = Panel(layout, flank=seed % 2 == 0)
            for train, way in enumerate(ways):
                heading = "east" if way[0] < way[1] else "west"
                try:
                    panel.place(train, way[0], heading)
                except BlockTaken:
                    pass
            placed = panel.journal()
            requests = []
            for train in chance.sample(panel.trains(), len(panel.trains())):
                deed = ("request", train, tuple(ways[train][1:]))
                try:
                    perform(panel, [deed])
                    requests.append(deed)
                except RailError:
                    pass
            several += len(requests) > 1
            for _ in range(12):
                order = chance.sample(requests, len(requests))
                other = replay(layout, placed + order, flank=seed % 2 == 0)
                self.assertEqual(other.state(), panel.state())
        self.assertGreater(several, 30)


if __name__ == "__main__":
    unittest.main()
