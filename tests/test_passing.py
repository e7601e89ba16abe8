"""[44]: the events of a plan as deeds on a panel, and steps that are guarded by it."""

import random
import unittest

from railhouse.deeds import perform
from railhouse.drives import Drive
from railhouse.errors import BlockTaken, MustWait, NoEvent, NothingBehind, NothingToUndo, NoTrain, PointLocked, TrainBusy
from railhouse.errors import TrainDone, TrainKnown
from railhouse.layout import Layout
from railhouse.panel import Panel
from railhouse.passing import guarded_step, panel_deeds
from railhouse.plans import Plan
from railhouse.rings import run_out
from railhouse.trains import Train
from tests.plain_plans import ALIVE, CHAIN, DEAD, SHUTTLE, busy_plans, chance_plan, great_plan, picture, plain_run_out
from tests.support import GREAT, Case, no_blocks


def view(drive, panel):
    return list(drive), drive.may_step(), panel.state(), panel.journal()


class DeedsTest(Case):
    def test_all_events_of_a_train(self):
        # The releases are 3, 7, 7, 9, 10.
        self.assertEqual([panel_deeds(ALIVE, 0, number) for number in range(11)], [
            [("place", 0, 0, "east")], [],
            [("request", 0, (1,)), ("advance", 0)], [("release", 0)],
            [("request", 0, (2,)), ("advance", 0)], [],
            [("request", 0, (3,)), ("advance", 0)], [("release", 0), ("release", 0)],
            [("request", 0, (4,)), ("advance", 0)], [("release", 0)],
            [("withdraw", 0)],
        ])

    def test_westward(self):
        self.assertEqual(panel_deeds(ALIVE, 1, 0), [("place", 1, 4, "west")])
        self.assertEqual(panel_deeds(ALIVE, 1, 2), [("request", 1, (3,)), ("advance", 1)])

    def test_a_long_train_whose_last_blocks_are_released_by_the_last_event(self):
        plan = Plan(CHAIN, [Train([0, 1, 2, 3, 4], length=10 ** 12)], [[], [0], [], [0], []])
        self.assertEqual([panel_deeds(plan, 0, number) for number in (1, 3, 5, 7, 9)], [[]] * 5)
        self.assertEqual(panel_deeds(plan, 0, 10), [("release", 0)] * 4 + [("withdraw", 0)])
        some = Plan(CHAIN, [Train([0, 1, 2, 3, 4], length=320)], [[], [0], [], [0], []])
        self.assertEqual([panel_deeds(some, 0, number) for number in (3, 5, 7, 9)], [[], [], [], [("release", 0)] * 2])
        self.assertEqual(panel_deeds(some, 0, 10), [("release", 0)] * 2 + [("withdraw", 0)])

    def test_a_train_of_one_block(self):
        plan = Plan(CHAIN, [Train([1])], [[], [0], [], [], []])
        self.assertEqual([panel_deeds(plan, 0, number) for number in range(3)],
                         [[("place", 0, 1, "east")], [], [("withdraw", 0)]])

    def test_a_dead_plan(self):
        self.assertEqual(panel_deeds(DEAD, 0, 7), [("release", 0)] * 2)

    def test_errors(self):
        for train in no_blocks(2):
            self.refused(NoTrain, {"train": train}, panel_deeds, ALIVE, train, 99)
        for number in (-1, 11, GREAT, -GREAT):
            self.refused(NoEvent, {"train": 1, "number": number}, panel_deeds, ALIVE, 1, number)

    def test_new_and_by_name(self):
        panel_deeds(plan=ALIVE, train=0, number=7).clear()
        self.assertEqual(len(panel_deeds(ALIVE, 0, 7)), 2)

    def test_every_driving_is_accepted_with_the_same_holders(self):
        trains = 0
        for plan in busy_plans(60) + [chance_plan(seed, many=5) for seed in range(40)]:
            for pick in (min, max, random.Random(plan.total).choice):
                drive, panel = Drive(plan), Panel(plan.layout, flank=False)
                for train in plain_run_out(plan, pick):
                    number = drive.step(train)
                    perform(panel, panel_deeds(plan, train, number))
                    for block in range(plan.layout.size):
                        self.assertEqual(panel.holders(block), drive.holders(block))
                if drive.finished:
                    self.assertEqual((panel.trains(), panel.locks()), ([], []))
                    trains += plan.size
        self.assertGreater(trains, 100)


class GuardedStepTest(Case):
    def setUp(self):
        self.drive, self.panel = Drive(ALIVE), Panel(CHAIN, flank=False)

    def test_steps(self):
        self.assertEqual([guarded_step(self.drive, self.panel, train) for train in (0, 1, 0, 0, 1, 0)],
                         [0, 0, 1, 2, 1, 3])
        self.assertEqual(list(self.drive), [0, 1, 0, 0, 1, 0])
        self.assertEqual(self.panel.journal(), [
            ("place", 0, 0, "east"), ("place", 1, 4, "west"), ("request", 0, (1,)), ("advance", 0), ("release", 0),
        ])

    def test_through_the_whole_plan(self):
        for train in run_out(ALIVE):
            guarded_step(self.drive, self.panel, train)
        self.assertTrue(self.drive.finished)
        self.assertEqual((self.panel.trains(), len(self.panel.journal())), ([], 2 * (1 + 8 + 4 + 1)))

    def test_a_step_that_the_drive_refuses(self):
        for train in (1, 1, 0):
            guarded_step(self.drive, self.panel, train)
        before = view(self.drive, self.panel)
        self.refused(MustWait, {"train": 1, "other": 0, "block": 3}, guarded_step, self.drive, self.panel, 1)
        for train in no_blocks(2):
            self.refused(NoTrain, {"train": train}, guarded_step, self.drive, self.panel, train)
        self.assertEqual(view(self.drive, self.panel), before)
        for train in [0] * 10:
            guarded_step(self.drive, self.panel, train)
        before = view(self.drive, self.panel)
        self.refused(TrainDone, {"train": 0}, guarded_step, self.drive, self.panel, 0)
        self.assertEqual(view(self.drive, self.panel), before)

    def test_the_panel_refuses_the_first_deed(self):
        self.panel.place(0, 3, "west")
        before = view(self.drive, self.panel)
        self.refused(TrainKnown, {"train": 0}, guarded_step, self.drive, self.panel, 0)
        self.assertEqual(view(self.drive, self.panel), before)
        self.panel.withdraw(0)
        self.panel.place(7, 1, "west")
        self.assertEqual([guarded_step(self.drive, self.panel, 0) for _ in range(2)], [0, 1])
        before = view(self.drive, self.panel)
        self.refused(BlockTaken, {"block": 1, "holder": 7}, guarded_step, self.drive, self.panel, 0)
        self.assertEqual(view(self.drive, self.panel), before)
        self.assertEqual((self.drive.done(0), self.panel.holders(1)), (2, [7]))
        self.panel.withdraw(7)
        self.assertEqual(guarded_step(self.drive, self.panel, 0), 2)

    def test_the_panel_refuses_the_second_deed(self):
        # Event 7 releases two blocks, but somebody has released one of them before.
        for _ in range(7):
            guarded_step(self.drive, self.panel, 0)
        self.panel.release(0)
        before = view(self.drive, self.panel)
        self.assertEqual(self.panel.occupied(0), [2, 3])
        self.refused(NothingBehind, {"train": 0}, guarded_step, self.drive, self.panel, 0)
        self.assertEqual(view(self.drive, self.panel), before)
        self.panel.undo()
        self.assertEqual(guarded_step(self.drive, self.panel, 0), 7)
        self.assertEqual(self.panel.occupied(0), [3])

    def test_the_panel_refuses_the_third_deed(self):
        # Event 9 releases three blocks at once.
        plan = Plan(CHAIN, [Train([0, 1, 2, 3, 4], length=300)], [[], [0], [], [0], []])
        drive = Drive(plan)
        for _ in range(9):
            guarded_step(drive, self.panel, 0)
        self.panel.release(0)
        self.panel.release(0)
        before = view(drive, self.panel)
        self.assertEqual(self.panel.occupied(0), [2, 3, 4])
        self.refused(NothingBehind, {"train": 0}, guarded_step, drive, self.panel, 0)
        self.assertEqual(view(drive, self.panel), before)
        self.panel.undo()
        self.panel.undo()
        self.assertEqual([guarded_step(drive, self.panel, 0) for _ in range(2)], [9, 10])
        self.assertTrue(drive.finished)

    def test_the_panel_refuses_the_withdrawal(self):
        plan = Plan(CHAIN, [Train([0, 1], length=500)], [[], [0], [], [], []])
        drive = Drive(plan)
        for _ in range(4):
            guarded_step(drive, self.panel, 0)
        self.panel.request(0, [2])
        before = view(drive, self.panel)
        self.refused(TrainBusy, {"train": 0}, guarded_step, drive, self.panel, 0)
        self.assertEqual(view(drive, self.panel), before)
        self.assertEqual((self.panel.occupied(0), self.panel.requests(0)), ([0, 1], [1]))

    def test_a_point_that_is_locked(self):
        # Each of the two trains wants the point of block 0 to lead to the other one.
        layout = Layout([40] * 5, [(0, 3), (0, 4), (1, 3), (2, 4)])
        plan = Plan(layout, [Train([1, 3]), Train([2, 4])], [[], [0], [1], [0], [1]])
        drive, panel = Drive(plan), Panel(layout)
        for train in (0, 0, 0, 1, 1):
            guarded_step(drive, panel, train)
        before = view(drive, panel)
        self.refused(PointLocked, {"block": 0, "side": "east"}, guarded_step, drive, panel, 1)
        self.assertEqual(view(drive, panel), before)
        self.assertEqual((panel.locks(), drive.may_step()), ([(0, "east", 4), (3, "west", 1)], [0, 1]))
        guarded_step(drive, panel, 0)
        self.assertEqual(guarded_step(drive, panel, 1), 2)

    def test_after_a_refusal_all_goes_on(self):
        for plan in busy_plans(20, alive=True):
            chance = random.Random(plan.total)
            drive, panel = Drive(plan), Panel(plan.layout, flank=False)
            while not drive.finished:
                train = chance.randrange(plan.size)
                before = view(drive, panel)
                if train in drive.may_step():
                    self.assertEqual(guarded_step(drive, panel, train), drive.done(train) - 1)
                else:
                    with self.assertRaises((MustWait, TrainDone)):
                        guarded_step(drive, panel, train)
                    self.assertEqual(view(drive, panel), before)
            while list(drive):
                drive.back()
            self.refused(NothingToUndo, {}, drive.back)

    def test_by_name(self):
        before = picture(SHUTTLE)
        self.assertEqual(guarded_step(drive=Drive(SHUTTLE), panel=self.panel, train=0), 0)
        self.assertEqual(picture(SHUTTLE), before)


class BoundTest(Case):
    def test_twelve_trains(self):
        plan = great_plan()
        drive, panel = Drive(plan), Panel(plan.layout, flank=False)

        def run():
            for train in run_out(plan):
                guarded_step(drive, panel, train)

        self.quick(run, seconds=2)
        self.assertTrue(drive.finished)
        self.assertEqual(panel.trains(), [])
        self.quick(panel_deeds, plan, 11, 40, seconds=1)


if __name__ == "__main__":
    unittest.main()
