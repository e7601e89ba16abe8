"""[39] and [40]: drives, and lists that are drivings."""

import random
import unittest

from railhouse.drives import Drive, is_driving
from railhouse.errors import MustWait, NoBlock, NothingToUndo, NoTrain, TrainDone
from railhouse.layout import Layout
from railhouse.plans import Plan
from railhouse.rings import run_out, standstill
from railhouse.trains import Train, releases
from tests.plain_plans import ALIVE, CHAIN, DEAD, EMPTY, IDLE, RING_OF_TURNS, SHUTTLE, TRAINS, busy_plan, busy_plans
from tests.plain_plans import chance_plan, great_plan, picture, plain_open, plain_pairs, plain_run_out
from tests.support import Case, no_blocks


def view(drive, plan):
    """Return all that a drive tells."""
    trains = range(plan.size)
    return (
        list(drive), drive.finished, drive.may_step(), [drive.done(train) for train in trains],
        [drive.held(train) for train in trains], [drive.holders(block) for block in range(plan.layout.size)],
    )


def plain_view(plan, driving):
    """Return what a drive has to tell after these steps, word by word."""
    trains, pairs = range(plan.size), plain_pairs(plan)
    done = [driving.count(train) for train in trains]
    free = [train for train in trains if done[train] <= plan.train_of(train).last
            and all(number < done[other] for (other, number), event in pairs if event == (train, done[train]))]
    held = []
    for train in trains:
        way = plan.train_of(train).blocks()
        held.append([way[step] for step in range(len(way)) if plain_open(plan, done, train, step)])
    holders = [[train for train in trains if block in held[train]] for block in range(plan.layout.size)]
    return driving, len(driving) == plan.total, free, done, held, holders


class StepTest(Case):
    def test_a_train_runs_through(self):
        drive = Drive(ALIVE)
        self.assertEqual(view(drive, ALIVE), ([], False, [0, 1], [0, 0], [[], []], [[], [], [], [], []]))
        held = []
        for number in range(11):
            self.assertEqual(drive.step(0), number)
            self.assertEqual(drive.done(0), number + 1)
            held.append(drive.held(0))
        self.assertEqual(held, [[0], [0], [0, 1], [1], [1, 2], [1, 2], [1, 2, 3], [3], [3, 4], [4], []])
        self.assertEqual(list(drive), [0] * 11)
        self.assertIs(drive.finished, False)
        self.assertEqual(drive.may_step(), [1])

    def test_a_drive_that_has_ended(self):
        drive = Drive(ALIVE)
        self.assertEqual(drive.run(), [0] * 11 + [1] * 11)
        self.assertEqual(view(drive, ALIVE), ([0] * 11 + [1] * 11, True, [], [11, 11], [[], []], [[], [], [], [], []]))
        self.refused(TrainDone, {"train": 0}, drive.step, 0)
        self.refused(TrainDone, {"train": 1}, drive.step, 1)
        self.assertEqual(drive.run(), [])
        self.assertEqual(drive.back(), 1)
        self.assertIs(drive.finished, False)
        self.assertEqual(drive.step(1), 10)
        self.assertIs(drive.finished, True)

    def test_one_train_has_ended(self):
        drive = Drive(ALIVE)
        for _ in range(11):
            drive.step(0)
        before = view(drive, ALIVE)
        self.refused(TrainDone, {"train": 0}, drive.step, 0)
        self.assertEqual(view(drive, ALIVE), before)

    def test_must_wait_for_a_block(self):
        drive = Drive(ALIVE)
        self.assertEqual([drive.step(1), drive.step(1)], [0, 1])
        before = view(drive, ALIVE)
        self.refused(MustWait, {"train": 1, "other": 0, "block": 3}, drive.step, 1)
        self.assertEqual(view(drive, ALIVE), before)
        self.assertEqual(drive.may_step(), [0])

    def test_must_wait_for_the_train_directly_ahead(self):
        plan = Plan(Layout([1], []), [Train([0])] * 3, [[2, 0, 1]])
        drive = Drive(plan)
        self.refused(MustWait, {"train": 1, "other": 0, "block": 0}, drive.step, 1)
        self.refused(MustWait, {"train": 0, "other": 2, "block": 0}, drive.step, 0)
        self.assertEqual([drive.step(2) for _ in range(3)], [0, 1, 2])
        self.refused(MustWait, {"train": 1, "other": 0, "block": 0}, drive.step, 1)
        self.assertEqual(drive.step(0), 0)

    def test_must_wait_for_a_turn(self):
        drive = Drive(SHUTTLE)
        self.refused(MustWait, {"train": 1, "other": 0, "block": -1}, drive.step, 1)
        self.refused(MustWait, {"train": 2, "other": 1, "block": -1}, drive.step, 2)
        for number in range(7):
            self.refused(MustWait, {"train": 1, "other": 0, "block": -1}, drive.step, 1)
            self.assertEqual(drive.step(0), number)
        self.assertEqual([drive.step(1) for _ in range(7)], list(range(7)))
        self.refused(TrainDone, {"train": 0}, drive.step, 0)
        self.assertEqual(drive.may_step(), [2])

    def test_a_turn_of_others_does_not_matter(self):
        plan = Plan(CHAIN, [TRAINS[0], Train([0, 1, 2]), Train([2, 1, 0])], [[], [1, 0, 2], [], [0], []], turns=[(1, 2)])
        drive = Drive(plan)
        self.assertEqual([drive.step(0), drive.step(0)], [0, 1])
        self.refused(MustWait, {"train": 0, "other": 1, "block": 1}, drive.step, 0)

    def test_no_train(self):
        drive = Drive(ALIVE)
        drive.step(1)
        for call in (drive.step, drive.done, drive.held):
            for train in no_blocks(2):
                self.refused(NoTrain, {"train": train}, call, train)
        self.assertEqual(list(drive), [1])

    def test_no_block(self):
        drive = Drive(ALIVE)
        drive.step(1)
        for block in no_blocks(5):
            self.refused(NoBlock, {"block": block}, drive.holders, block)
        self.assertEqual(drive.holders(4), [1])

    def test_a_dead_plan(self):
        drive = Drive(DEAD)
        self.assertEqual(drive.run(), [0] * 6 + [1] * 6)
        self.assertEqual((drive.may_step(), drive.finished, drive.run()), ([], False, []))
        for train, other, block in standstill(DEAD)[1]:
            self.refused(MustWait, {"train": train, "other": other, "block": block}, drive.step, train)
        self.assertEqual([drive.holders(block) for block in range(5)], [[], [0], [0, 1], [1], []])
        around = Drive(RING_OF_TURNS)
        self.refused(MustWait, {"train": 0, "other": 1, "block": -1}, around.step, 0)
        self.assertEqual((around.run(), around.may_step()), ([], []))

    def test_no_trains(self):
        for plan in (EMPTY, IDLE):
            drive = Drive(plan)
            self.assertEqual((list(drive), drive.finished, drive.may_step(), drive.run()), ([], True, [], []))
            self.refused(NothingToUndo, {}, drive.back)
            self.refused(NoTrain, {"train": 0}, drive.step, 0)
        self.refused(NoBlock, {"block": 0}, Drive(EMPTY).holders, 0)
        self.assertEqual(Drive(IDLE).holders(4), [])

    def test_several_trains_in_a_yard(self):
        drive = Drive(ALIVE)
        for train in (1, 0, 0, 0, 0, 0):
            drive.step(train)
        self.assertEqual([drive.holders(block) for block in range(5)], [[], [0], [0], [], [1]])
        same = Drive(Plan(CHAIN, [Train([2])] * 3, [[]] * 5))
        same.step(2)
        same.step(0)
        self.assertEqual(same.holders(2), [0, 2])


class BackTest(Case):
    def test_down_to_the_beginning(self):
        drive = Drive(ALIVE)
        steps = [0, 1, 0, 0, 1, 0]
        views = []
        for train in steps:
            views.append(view(drive, ALIVE))
            drive.step(train)
        for train in reversed(steps):
            self.assertEqual(drive.back(), train)
            self.assertEqual(view(drive, ALIVE), views.pop())
        self.refused(NothingToUndo, {}, drive.back)
        self.assertEqual(list(drive), [])
        self.assertEqual(drive.run(), run_out(ALIVE))

    def test_over_a_run(self):
        drive = Drive(ALIVE)
        drive.step(1)
        drive.run()
        self.assertEqual([drive.back() for _ in range(22)], [1] * 10 + [0] * 11 + [1])
        self.refused(NothingToUndo, {}, drive.back)


class RunTest(Case):
    def test_goes_on_from_the_present_moment(self):
        drive = Drive(ALIVE)
        drive.step(1)
        drive.step(0)
        self.assertEqual(drive.run(), [0] * 10 + [1] * 10)
        self.assertEqual(list(drive), [1, 0] + [0] * 10 + [1] * 10)

    def test_the_least_train_again_and_again(self):
        plan = Plan(CHAIN, TRAINS, [[], [1, 0], [], [1, 0], []])
        drive = Drive(plan)
        drive.step(0)
        self.assertEqual(drive.run(), plain_run_out(plan)[1:])


class ChanceTest(Case):
    def test_every_moment(self):
        for seed in range(60):
            plan = busy_plan(seed, 3) if seed % 3 else chance_plan(seed)
            chance, drive, driving = random.Random(seed), Drive(plan), []
            while True:
                shown = plain_view(plan, driving)
                self.assertEqual(view(drive, plan), shown)
                for block, holders in enumerate(shown[5]):
                    self.assertTrue(len(holders) < 2 or plan.layout.is_yard(block))
                for train in range(plan.size):
                    if train not in shown[2]:
                        self.check_refusal(plan, drive, train, shown[3])
                self.assertEqual(view(drive, plan), shown)
                if not shown[2]:
                    break
                if driving and chance.random() < 0.2:
                    self.assertEqual(drive.back(), driving.pop())
                else:
                    train = chance.choice(shown[2])
                    self.assertEqual(drive.step(train), shown[3][train])
                    driving.append(train)

    def check_refusal(self, plan, drive, train, done):
        if done[train] > plan.train_of(train).last:
            self.refused(TrainDone, {"train": train}, drive.step, train)
            return
        firsts = [x for x, y in plan.turns() if y == train and done[x] <= plan.train_of(x).last and done[train] == 0]
        if firsts:
            self.refused(MustWait, {"train": train, "other": firsts[0], "block": -1}, drive.step, train)
            return
        block = plan.train_of(train).blocks()[done[train] // 2]
        other = plan.order(block)[plan.order(block).index(train) - 1]
        self.refused(MustWait, {"train": train, "other": other, "block": block}, drive.step, train)

    def test_runs_from_every_moment(self):
        for plan in busy_plans(20):
            pairs, full = plain_pairs(plan), plain_run_out(plan)
            for cut in range(0, len(full), 3):
                drive, start = Drive(plan), plain_run_out(plan, max)[:cut]
                for train in start:
                    drive.step(train)
                done, rest = [start.count(train) for train in range(plan.size)], []
                while True:
                    free = [train for train in range(plan.size) if done[train] <= plan.train_of(train).last and all(
                        number < done[other] for (other, number), event in pairs if event == (train, done[train]))]
                    if not free:
                        break
                    done[free[0]] += 1
                    rest.append(free[0])
                self.assertEqual(drive.run(), rest)
                self.assertEqual(list(drive), start + rest)
                self.assertEqual(sorted(list(drive)), sorted(full))

    def test_releases_bound_what_is_held(self):
        for plan in busy_plans(10, alive=True):
            drive = Drive(plan)
            for train in run_out(plan):
                number = drive.step(train)
                ends = releases(plan.layout, plan.train_of(train))
                way = plan.train_of(train).blocks()
                for step, end in enumerate(ends):
                    self.assertEqual(way[step] in drive.held(train), 2 * step <= number < end)


class IterationTest(Case):
    def test_like_a_list(self):
        drive = Drive(ALIVE)
        for train in (0, 1, 0):
            drive.step(train)
        self.assertEqual([train for train in drive], [0, 1, 0])
        self.assertEqual((list(drive), sum(drive), sorted(drive)), ([0, 1, 0], 1, [0, 0, 1]))
        self.assertEqual(list(zip(drive, drive)), [(0, 0), (1, 1), (0, 0)])

    def test_results_are_new(self):
        drive = Drive(plan=ALIVE)
        drive.run().clear()
        drive.back()
        list(drive).clear()
        drive.may_step().clear()
        drive.held(1).clear()
        drive.holders(0).clear()
        self.assertEqual((len(list(drive)), drive.may_step()), (21, [1]))
        self.assertEqual((drive.held(train=1), drive.holders(block=0)), ([0], [1]))
        self.assertEqual((drive.done(train=1), drive.step(train=1)), (10, 10))

    def test_the_plan_stays_as_it_was(self):
        before = picture(SHUTTLE)
        Drive(SHUTTLE).run()
        self.assertEqual(picture(SHUTTLE), before)

    def test_two_drives_of_one_plan(self):
        left, right = Drive(ALIVE), Drive(ALIVE)
        left.step(0)
        self.assertEqual((list(left), list(right), right.done(0)), ([0], [], 0))


class IsDrivingTest(Case):
    def test_drivings(self):
        full = run_out(ALIVE)
        for many in range(len(full) + 1):
            self.assertIs(is_driving(ALIVE, full[:many]), True)
        self.assertIs(is_driving(ALIVE, [1, 0, 1, 0]), True)
        self.assertIs(is_driving(DEAD, run_out(DEAD)), True)
        self.assertIs(is_driving(IDLE, []), True)

    def test_events_that_may_not_happen(self):
        self.assertIs(is_driving(ALIVE, [1, 1, 1]), False)
        self.assertIs(is_driving(ALIVE, [1, 1, 1] + [0] * 11), False)
        self.assertIs(is_driving(DEAD, run_out(DEAD) + [0]), False)
        self.assertIs(is_driving(SHUTTLE, [1]), False)

    def test_entries_that_are_no_trains(self):
        for bad in no_blocks(2):
            self.assertIs(is_driving(ALIVE, [bad]), False)
            self.assertIs(is_driving(ALIVE, [0, bad, 0]), False)
        self.assertIs(is_driving(IDLE, [0]), False)

    def test_a_train_all_of_whose_events_have_happened(self):
        self.assertIs(is_driving(ALIVE, [0] * 12), False)
        self.assertIs(is_driving(ALIVE, run_out(ALIVE) + [1]), False)

    def test_by_chance(self):
        right = 0
        for plan in busy_plans(30):
            chance, pairs = random.Random(1), plain_pairs(plan)
            for _ in range(60):
                driving = [chance.randrange(plan.size) for _ in range(chance.randrange(9))]
                happened, fits = [], True
                for at, train in enumerate(driving):
                    event = (train, driving[:at].count(train))
                    fits = fits and all(first in happened for first, second in pairs if second == event)
                    fits = fits and event[1] <= plan.train_of(train).last
                    happened.append(event)
                right += fits
                self.assertIs(is_driving(plan, driving), fits)
        self.assertTrue(300 < right < 1700, right)

    def test_by_name_and_not_modified(self):
        driving = [0, 1]
        self.assertIs(is_driving(plan=ALIVE, driving=driving), True)
        self.assertEqual(driving, [0, 1])


class BoundTest(Case):
    def test_twelve_trains(self):
        plan = great_plan()
        drive = Drive(plan)
        self.assertEqual(self.quick(drive.run, seconds=1), run_out(plan))
        self.assertTrue(drive.finished)
        self.quick(lambda: [drive.back() for _ in range(492)], seconds=1)
        for call in (drive.run, drive.may_step, lambda: drive.held(11), lambda: drive.holders(19)):
            self.quick(call, seconds=1)

    def test_long_lists(self):
        self.assertTrue(self.quick(is_driving, great_plan(), run_out(great_plan()), seconds=1))
        self.assertFalse(self.quick(is_driving, great_plan(), [0] * 1000, seconds=1))


if __name__ == "__main__":
    unittest.main()
