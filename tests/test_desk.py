"""[67] to [70]: the control desk."""

import random
import unittest

from railhouse.clock import Clock
from railhouse.desk import Desk
from railhouse.drives import Drive
from railhouse.errors import MustWait, NoBlock, NoPlace, NoStep, NotAlive, NothingToUndo, NoTrain, OutOfSpan, RailError
from railhouse.errors import RunOver, TooLate, TrainDone
from railhouse.journals import replay_desk
from railhouse.layout import Layout
from railhouse.notes import format_deeds, parse_deeds
from railhouse.plans import Plan
from railhouse.promises import broken
from railhouse.rings import run_out
from railhouse.spans import Span
from railhouse.trains import Train
from tests.plain_clock import CLOCK, DWELLS, RUNS, busy_terms
from tests.plain_desk import PlainDesk, chance_deed, do, drawn_deeds, passing_terms, view
from tests.plain_plans import ALIVE, CHAIN, EMPTY, IDLE, SHUTTLE, great_plan, picture, plain_run_out
from tests.support import GREAT, Case, no_blocks

# Three trains from yard to yard over block 1, in both directions; each run takes 5 to 9.
THREE = Plan(CHAIN, [Train([0, 1, 2]), Train([2, 1, 0]), Train([0, 1, 2])], [[], [0, 1, 2], [], [], []])
THREE_CLOCK = Clock(THREE, [[Span(5, 9)] * 3] * 3, [[1] * 3] * 3, clearing=2)


def shuttle_desk():
    return Desk(Clock(SHUTTLE, [[Span(3, 5)] * 3] * 3, [[0] * 3] * 3, turning=10, starts=[4, 0, 99]))


class NewDeskTest(Case):
    def test_a_new_desk(self):
        desk = Desk(CLOCK)
        self.assertEqual(desk.state(), ([0, 0], [[5] * 5] * 2, [[], [0, 1], [], [0, 1], []], [[], []]))
        self.assertEqual((desk.journal(), desk.times(), desk.forecast()), ([], [[], []], CLOCK.times()))
        self.assertEqual((picture(desk.present), desk.finished), (picture(ALIVE), False))
        self.assertEqual(([desk.done(train) for train in range(2)], desk.may_step()), ([0, 0], [0, 1]))
        self.assertEqual([desk.holders(block) for block in range(5)], [[]] * 5)

    def test_without_trains(self):
        for plan in (EMPTY, IDLE):
            desk = Desk(Clock(plan, [], []))
            self.assertIs(desk.finished, True)
            self.assertEqual((desk.run(), desk.may_step(), desk.forecast(), desk.lateness([])), ([], [], [], 0))
            self.assertEqual(desk.state(), ([], [], [[]] * plan.layout.size, []))
            self.refused(NoTrain, {"train": 0}, desk.step, 0)
            self.refused(NothingToUndo, {}, desk.undo)

    def test_by_name(self):
        desk = Desk(clock=CLOCK)
        self.assertEqual(desk.step(train=0), 0)
        self.assertEqual(desk.delay(train=0, step=0, amount=1), 6)
        self.refused(TooLate, {"block": 1, "at": 0}, lambda: (desk.run(), desk.exchange(block=1, place=0)))
        self.assertEqual((desk.done(train=0), desk.holders(block=1), desk.lateness(promises=[])), (11, [], 0))


class StepTest(Case):
    def test_example(self):
        desk = Desk(CLOCK)
        desk.step(0)
        desk.delay(0, 0, 1)
        self.assertEqual([desk.step(0), desk.times()], [6, [[0, 6], []]])

    def test_times(self):
        desk = Desk(CLOCK)
        self.assertEqual([desk.step(0) for _ in range(11)], CLOCK.times()[0])
        self.assertEqual([desk.step(1) for _ in range(11)], CLOCK.times()[1])
        self.assertEqual((desk.times(), desk.finished), (CLOCK.times(), True))

    def test_starts_and_turns(self):
        desk = shuttle_desk()
        times = [[4, 7, 7, 10, 10, 13, 13], [23, 26, 26, 29, 29, 32, 32], [99, 102, 102, 105, 105, 108, 108]]
        self.assertEqual([[desk.step(train) for _ in range(7)] for train in range(3)], times)

    def test_a_step_that_must_wait(self):
        desk = Desk(CLOCK)
        for train in (1, 1):
            desk.step(train)
        before = view(desk)
        self.refused(MustWait, {"train": 1, "other": 0, "block": 3}, desk.step, 1)
        self.assertEqual(view(desk), before)
        turns = shuttle_desk()
        self.refused(MustWait, {"train": 1, "other": 0, "block": -1}, turns.step, 1)
        self.refused(MustWait, {"train": 2, "other": 1, "block": -1}, turns.step, 2)
        self.assertEqual(turns.may_step(), [0])

    def test_a_train_that_is_done(self):
        desk = Desk(CLOCK)
        for _ in range(11):
            desk.step(0)
        before = view(desk)
        self.refused(TrainDone, {"train": 0}, desk.step, 0)
        self.assertEqual(view(desk), before)

    def test_no_train(self):
        desk = Desk(CLOCK)
        for train in no_blocks(2):
            self.refused(NoTrain, {"train": train}, desk.step, train)
            self.refused(NoTrain, {"train": train}, desk.done, train)
        self.assertEqual(view(desk), view(Desk(CLOCK)))

    def test_the_panel_follows(self):
        desk = Desk(CLOCK)
        for train in (0, 0, 0, 1):
            desk.step(train)
        self.assertEqual([desk.holders(block) for block in range(5)], [[0], [0], [], [], [1]])
        for _ in range(5):
            desk.step(0)
        self.assertEqual([desk.holders(block) for block in range(5)], [[], [], [], [0], [1]])
        desk.run()
        self.assertEqual([desk.holders(block) for block in range(5)], [[]] * 5)
        for block in no_blocks(5):
            self.refused(NoBlock, {"block": block}, desk.holders, block)

    def test_points_that_flanks_would_lock(self):
        # On a panel with flanks, neither train could enter its second block before the other one left.
        layout = Layout([40] * 5, [(0, 3), (0, 4), (1, 3), (2, 4)])
        plan = Plan(layout, [Train([1, 3]), Train([2, 4])], [[], [0], [1], [0], [1]])
        desk = Desk(Clock(plan, [[Span(1, 1)] * 2] * 2, [[0] * 2] * 2))
        for train in (0, 0, 0, 1, 1, 1):
            desk.step(train)
        self.assertEqual([desk.holders(block) for block in range(5)], [[], [0], [1], [0], [1]])


class DelayTest(Case):
    def test_up_to_the_high(self):
        desk = Desk(THREE_CLOCK)
        self.assertEqual([desk.delay(0, 1, amount) for amount in (0, 1, 3, 0)], [5, 6, 9, 9])
        self.refused(OutOfSpan, {"train": 0, "number": 1}, desk.delay, 0, 1, 1)
        self.assertEqual(desk.state()[1], [[5, 9, 5], [5, 5, 5], [5, 5, 5]])
        self.assertEqual(Desk(THREE_CLOCK).delay(2, 2, 4), 9)
        self.assertEqual(THREE_CLOCK.times()[0], [0, 5, 6, 11, 12, 17, 18])

    def test_beyond_the_high(self):
        desk = Desk(THREE_CLOCK)
        for amount in (5, 6, 10 ** 12, GREAT):
            self.refused(OutOfSpan, {"train": 1, "number": 2}, desk.delay, 1, 2, amount)
        self.assertEqual(view(desk), view(Desk(THREE_CLOCK)))
        for step in range(5):
            self.assertEqual(Desk(CLOCK).delay(0, step, 1), 6)
            self.refused(OutOfSpan, {"train": 0, "number": step}, Desk(CLOCK).delay, 0, step, 2)

    def test_up_to_the_arrival(self):
        desk = Desk(THREE_CLOCK)
        desk.step(0)
        self.assertEqual(desk.delay(0, 0, 1), 6)
        self.assertEqual(desk.step(0), 6)
        for amount in (0, 1, 99):
            self.refused(RunOver, {"train": 0, "number": 0}, desk.delay, 0, 0, amount)
        desk.step(0)
        self.assertEqual(desk.delay(0, 1, 2), 7)
        self.refused(RunOver, {"train": 0, "number": 0}, desk.delay, 0, 0, 0)
        self.assertEqual([desk.step(0) for _ in range(4)], [14, 15, 20, 21])
        for step in range(3):
            self.refused(RunOver, {"train": 0, "number": step}, desk.delay, 0, step, 0)

    def test_the_order_of_the_errors(self):
        desk = Desk(THREE_CLOCK)
        desk.step(0)
        desk.step(0)
        for train in no_blocks(3):
            self.refused(NoTrain, {"train": train}, desk.delay, train, 99, 99)
        for step in (-1, 3, GREAT, -GREAT):
            self.refused(NoStep, {"train": 0, "number": step}, desk.delay, 0, step, 99)
        self.refused(RunOver, {"train": 0, "number": 0}, desk.delay, 0, 0, 99)
        self.assertEqual(len(desk.journal()), 2)

    def test_later_events_follow(self):
        desk = Desk(THREE_CLOCK)
        desk.delay(0, 1, 4)
        self.assertEqual(desk.forecast()[0], [0, 5, 6, 15, 16, 21, 22])
        # Train 1 waits for the release of block 1, the arrival of train 0 at step 2.
        self.assertEqual(desk.forecast()[1][2], 23)
        self.assertEqual(THREE_CLOCK.times()[1][2], 19)

    def test_a_span_of_one_number(self):
        desk = Desk(Clock(THREE, [[Span(5, 5)] * 3] * 3, [[1] * 3] * 3))
        self.assertEqual(desk.delay(0, 0, 0), 5)
        self.refused(OutOfSpan, {"train": 0, "number": 0}, desk.delay, 0, 0, 1)


class ExchangeTest(Case):
    def test_a_new_order(self):
        desk = Desk(THREE_CLOCK)
        self.assertEqual(desk.exchange(1, 0), (1, 0))
        self.assertEqual((desk.present.order(1), desk.state()[2][1], THREE.order(1)), ([1, 0, 2], [1, 0, 2], [0, 1, 2]))
        self.assertEqual(desk.exchange(1, 1), (2, 0))
        self.assertEqual((desk.present.order(1), desk.may_step()), ([1, 2, 0], [0, 1, 2]))
        # Train 0 enters block 1 last, behind train 2.
        self.assertEqual(desk.forecast()[0][:4], [0, 5, 32, 37])
        self.assertEqual(desk.run().count(0), 7)

    def test_trains_of_which_one_has_entered(self):
        desk = Desk(THREE_CLOCK)
        for _ in range(2):
            desk.step(0)
        self.assertEqual(desk.exchange(1, 0), (1, 0))
        self.assertEqual(desk.exchange(1, 0), (0, 1))
        desk.step(0)
        before = view(desk)
        self.refused(TooLate, {"block": 1, "at": 0}, desk.exchange, 1, 0)
        self.assertEqual(view(desk), before)
        self.assertEqual(desk.exchange(1, 1), (2, 1))
        desk.run()
        for place in range(2):
            self.refused(TooLate, {"block": 1, "at": place}, desk.exchange, 1, place)

    def test_an_exchange_that_would_make_the_plan_dead(self):
        desk = Desk(CLOCK)
        for block in (1, 3):
            self.refused(NotAlive, {"ring": [0, 1]}, desk.exchange, block, 0)
        self.assertEqual(view(desk), view(Desk(CLOCK)))
        with self.assertRaises(NotAlive) as caught:
            desk.exchange(1, 0)
        caught.exception.ring.clear()
        self.refused(NotAlive, {"ring": [0, 1]}, desk.exchange, 1, 0)

    def test_too_late_stands_before_not_alive(self):
        desk = Desk(CLOCK)
        for _ in range(3):
            desk.step(0)
        self.refused(TooLate, {"block": 1, "at": 0}, desk.exchange, 1, 0)
        self.refused(NotAlive, {"ring": [0, 1]}, desk.exchange, 3, 0)

    def test_the_other_errors_stand_before(self):
        desk = Desk(CLOCK)
        desk.run()
        for block in no_blocks(5):
            self.refused(NoBlock, {"block": block}, desk.exchange, block, 99)
        for place in (-1, 1, 2, GREAT, -GREAT):
            self.refused(NoPlace, {"block": 1, "at": place}, desk.exchange, 1, place)
        for block in (0, 2, 4):
            self.refused(NoPlace, {"block": block, "at": 0}, desk.exchange, block, 0)

    def test_turns_stay(self):
        desk = Desk(Clock(SHUTTLE, [[Span(3, 5)] * 3] * 3, [[0] * 3] * 3))
        self.refused(NotAlive, {"ring": [0, 1]}, desk.exchange, 1, 0)
        plan = Plan(CHAIN, [Train([0, 1, 2]), Train([2, 1, 0]), Train([0, 1, 2])], [[], [0, 1, 2], [], [], []], turns=[(0, 1)])
        desk = Desk(Clock(plan, [[Span(3, 5)] * 3] * 3, [[0] * 3] * 3, turning=7))
        self.assertEqual((desk.exchange(1, 1), desk.present.turns()), ((2, 1), [(0, 1)]))
        self.assertEqual(desk.forecast()[1][0], 9 + 7)


class UndoTest(Case):
    def test_each_kind(self):
        desk = Desk(THREE_CLOCK)
        deeds = [("step", 0), ("delay", 0, 0, 2), ("exchange", 1, 1), ("delay", 0, 0, 1), ("step", 0), ("exchange", 1, 0),
                 ("step", 2), ("delay", 2, 1, 0), ("step", 2), ("step", 2), ("step", 1), ("exchange", 1, 1)]
        views = [view(desk)]
        for deed in deeds:
            do(desk, deed)
            views.append(view(desk))
        self.assertEqual(desk.journal(), deeds)
        for deed in reversed(deeds):
            self.assertEqual(view(desk), views.pop())
            self.assertEqual(desk.undo(), deed)
        self.assertEqual(view(desk), view(Desk(THREE_CLOCK)))
        self.refused(NothingToUndo, {}, desk.undo)

    def test_of_none(self):
        desk = Desk(CLOCK)
        self.refused(NothingToUndo, {}, desk.undo)
        desk.step(0)
        desk.undo()
        self.refused(NothingToUndo, {}, desk.undo)
        self.assertEqual(view(desk), view(Desk(CLOCK)))

    def test_a_step_with_several_deeds_on_the_panel(self):
        # Event 7 releases two blocks, event 10 withdraws the train.
        desk = Desk(CLOCK)
        for _ in range(11):
            desk.step(0)
        self.assertEqual([desk.holders(block) for block in range(5)], [[]] * 5)
        desk.undo()
        self.assertEqual([desk.holders(block) for block in range(5)], [[], [], [], [], [0]])
        for _ in range(3):
            desk.undo()
        self.assertEqual([desk.holders(block) for block in range(5)], [[], [0], [0], [0], []])

    def test_refused_deeds_are_no_deeds(self):
        desk = Desk(CLOCK)
        desk.step(0)
        for deed in (("step", 7), ("delay", 0, 0, 9), ("exchange", 1, 0)):
            with self.assertRaises(RailError):
                do(desk, deed)
        self.assertEqual((desk.journal(), desk.undo(), desk.journal()), ([("step", 0)], ("step", 0), []))

    def test_another_deed_after_an_undo(self):
        desk = Desk(THREE_CLOCK)
        desk.delay(0, 0, 4)
        desk.undo()
        self.assertEqual(desk.delay(0, 0, 3), 8)
        desk.exchange(1, 0)
        desk.undo()
        self.assertEqual(desk.exchange(1, 0), (1, 0))
        self.assertEqual(desk.journal(), [("delay", 0, 0, 3), ("exchange", 1, 0)])


class RunTest(Case):
    def test_on_a_new_desk(self):
        desk = Desk(CLOCK)
        self.assertEqual(desk.run(), run_out(ALIVE))
        self.assertEqual((desk.finished, desk.times(), desk.may_step()), (True, CLOCK.times(), []))
        self.assertEqual(desk.journal(), [("step", train) for train in run_out(ALIVE)])

    def test_in_the_middle(self):
        desk = Desk(CLOCK)
        desk.step(1)
        desk.delay(0, 3, 1)
        self.assertEqual(desk.run(), [0] * 11 + [1] * 10)
        self.assertEqual((desk.times()[0][7], desk.journal()[:3]), (24, [("step", 1), ("delay", 0, 3, 1), ("step", 0)]))

    def test_at_the_end(self):
        desk = Desk(CLOCK)
        desk.run()
        before = view(desk)
        self.assertEqual((desk.run(), view(desk)), ([], before))

    def test_each_step_is_a_deed(self):
        desk = Desk(CLOCK)
        desk.run()
        self.assertEqual([desk.undo() for _ in range(11)], [("step", 1)] * 11)
        self.assertEqual((desk.done(0), desk.done(1), desk.finished), (11, 0, False))
        self.assertEqual(desk.run(), [1] * 11)

    def test_after_an_exchange(self):
        desk = Desk(THREE_CLOCK)
        desk.exchange(1, 0)
        desk.exchange(1, 1)
        self.assertEqual(desk.run(), plain_run_out(Plan(CHAIN, [THREE.train_of(train) for train in range(3)],
                                                        [[], [1, 2, 0], [], [], []])))


class LookTest(Case):
    def test_lateness(self):
        desk = Desk(CLOCK)
        self.assertEqual(desk.lateness([]), 0)
        self.assertEqual(desk.lateness([(0, 4, 29), (1, 4, 60)]), 0)
        self.assertEqual(desk.lateness([(0, 4, 40), (1, 4, 60)]), -6)
        desk.delay(0, 4, 1)
        self.assertEqual(desk.lateness([(0, 4, 29), (1, 4, 60)]), 1)
        self.assertEqual(desk.lateness([(1, 4, 50), (0, 4, 29)]), 5)
        desk.run()
        self.assertEqual(desk.lateness([(0, 4, 29), (1, 4, 60)]), 1)

    def test_lateness_errors(self):
        desk = Desk(CLOCK)
        for train in no_blocks(2):
            self.refused(NoTrain, {"train": train}, desk.lateness, [(0, 0, 0), (train, 9, 0), (0, 9, 0)])
        for step in (-1, 5, GREAT, -GREAT):
            self.refused(NoStep, {"train": 1, "number": step}, desk.lateness, [(1, step, 0), (9, 0, 0)])

    def test_finished(self):
        desk = Desk(THREE_CLOCK)
        for train in run_out(THREE):
            self.assertIs(desk.finished, False)
            desk.step(train)
        self.assertIs(desk.finished, True)

    def test_lists_are_new(self):
        desk = Desk(THREE_CLOCK)
        for deed in (("step", 0), ("delay", 1, 0, 2), ("step", 1)):
            do(desk, deed)
        before = view(desk)
        for rows in (*desk.state()[1:], desk.times(), desk.forecast()):
            rows[0].append(77)
            rows[1].append(77)
            rows.clear()
        for row in (desk.state()[0], desk.journal(), desk.may_step(), desk.holders(0), desk.present.order(1)):
            row.append(77)
            row.clear()
        self.assertEqual(view(desk), before)
        desk.run().clear()
        self.assertEqual(len(desk.journal()), 1 + THREE.total)

    def test_the_clock_is_not_changed_nor_another_desk(self):
        runs, dwells, starts = [list(row) for row in RUNS], [list(row) for row in DWELLS], [0, 0]
        clock = Clock(ALIVE, runs, dwells, starts=starts, clearing=2)
        desk, other = Desk(clock), Desk(clock)
        runs[0].clear()
        dwells[0].clear()
        starts.clear()
        desk.delay(0, 0, 1)
        desk.run()
        self.assertEqual((clock.times(), picture(clock.plan)), (CLOCK.times(), picture(ALIVE)))
        self.assertEqual(view(other), view(Desk(CLOCK)))


class ChanceTest(Case):
    def test_every_deed_against_the_words_of_the_document(self):
        kinds = {}
        for terms in busy_terms(35) + passing_terms(25):
            chance = random.Random(terms.seed)
            desk, plain = Desk(terms.clock), PlainDesk(terms)
            for _ in range(30):
                deed = chance_deed(chance, plain.plan(), 3)
                wanted = plain.error(deed)
                if wanted is None:
                    self.assertEqual(do(desk, deed), plain.perform(deed))
                else:
                    before = view(desk)
                    self.refused(*wanted, do, desk, deed)
                    self.assertEqual(view(desk), before)
                kind = wanted[0].__name__ if wanted else deed[0]
                kinds[kind] = kinds.get(kind, 0) + 1
                self.check_view(desk, plain)
        for kind in ("step", "delay", "exchange", "NoTrain", "TrainDone", "MustWait", "NoStep", "RunOver", "OutOfSpan",
                     "NoBlock", "NoPlace", "TooLate", "NotAlive"):
            self.assertGreater(kinds.get(kind, 0), 10, kinds)

    def check_view(self, desk, plain):
        self.assertEqual(desk.state(), plain.state())
        self.assertEqual((desk.forecast(), desk.times()), (plain.forecast(), plain.times()))
        self.assertEqual((desk.journal(), picture(desk.present)), (plain.deeds, picture(plain.plan())))
        trains = range(plain.terms.plan.size)
        self.assertEqual((desk.may_step(), desk.finished),
                         ([train for train in trains if plain.free(train)], sum(plain.done()) == plain.terms.plan.total))
        for block in range(plain.terms.plan.layout.size):
            self.assertEqual(desk.holders(block), plain.holders(block))


class AlwaysTest(Case):
    """The sentences of [70]."""

    def setUp(self):
        self.terms = busy_terms(25) + passing_terms(35)

    def desks(self):
        for terms in self.terms:
            for many in (5, 40):
                deeds = drawn_deeds(terms, many)
                desk = Desk(terms.clock)
                for deed in deeds:
                    do(desk, deed)
                yield terms, deeds, desk

    def test_the_present_plan_is_alive(self):
        exchanges = 0
        for _, deeds, desk in self.desks():
            plan = desk.present
            self.assertEqual(len(plain_run_out(plan)), plan.total)
            forecast = desk.forecast()
            desk.run()
            self.assertEqual((desk.finished, desk.times()), (True, forecast))
            exchanges += len([deed for deed in deeds if deed[0] == "exchange"])
        self.assertGreater(exchanges, 60)

    def test_the_panel_holds_as_a_drive_of_the_same_driving(self):
        for terms, deeds, desk in self.desks():
            drive = Drive(desk.present)
            for train in [deed[1] for deed in deeds if deed[0] == "step"]:
                drive.step(train)
            for block in range(terms.plan.layout.size):
                self.assertEqual(desk.holders(block), drive.holders(block))
                if not terms.plan.layout.is_yard(block):
                    self.assertLessEqual(len(desk.holders(block)), 1)
            self.assertEqual(desk.may_step(), drive.may_step())

    def test_two_steps_in_either_order(self):
        pairs = 0
        for terms, deeds, desk in self.desks():
            free = desk.may_step()
            for first in free:
                for second in free[free.index(first) + 1:]:
                    states = []
                    for trains in ((first, second), (second, first)):
                        for train in trains:
                            desk.step(train)
                        states.append((desk.state(), desk.forecast()))
                        for _ in trains:
                            desk.undo()
                    self.assertEqual(*states)
                    pairs += 1
        self.assertGreater(pairs, 50)

    def test_replay_of_the_journal(self):
        for terms, deeds, desk in self.desks():
            self.assertEqual(desk.journal(), deeds)
            self.assertEqual(view(replay_desk(terms.clock, desk.journal())), view(desk))
            written = format_deeds(desk.journal())
            self.assertEqual(view(replay_desk(terms.clock, parse_deeds(written))), view(desk))

    def test_taking_back_everything(self):
        for terms, deeds, desk in self.desks():
            self.assertEqual([desk.undo() for _ in deeds], deeds[::-1])
            self.assertEqual(view(desk), view(Desk(terms.clock)))

    def test_no_promise_is_late_that_no_run_breaks(self):
        kept, lates = 0, 0
        for terms, deeds, desk in self.desks():
            promises = [(train, step, latest + 4) for train, step, latest in terms.promises(random.Random(terms.seed), 3)]
            if broken(terms.clock, promises):
                continue
            exchanged = any(deed[0] == "exchange" for deed in deeds)
            while not desk.finished:
                self.assertTrue(exchanged or desk.lateness(promises) <= 0)
                desk.step(desk.may_step()[-1])
            kept, lates = kept + (not exchanged), lates + (desk.lateness(promises) > 0)
        self.assertGreater(kept, 10)


class BoundTest(Case):
    def setUp(self):
        layout = Layout([1] * 60, [(at, at + 1) for at in range(59)], yards=list(range(0, 60, 2)))
        trains = [Train(list(range(20))) for _ in range(12)]
        plan = Plan(layout, trains, [list(range(12)) if block % 2 and block < 20 else [] for block in range(60)])
        self.clock = Clock(plan, [[Span(1, 10 ** 12)] * 20] * 12, [[10 ** 12] * 20] * 12, starts=[10 ** 12] * 12,
                           clearing=10 ** 12)

    def test_all_steps_of_twelve_trains(self):
        plan = great_plan()
        desk = Desk(Clock(plan, [[Span(1, 10 ** 12)] * 20] * 12, [[10 ** 12] * 20] * 12, clearing=10 ** 12))
        self.assertEqual(len(self.quick(desk.run, seconds=2)), 12 * 41)
        promises = [(at % 12, at % 20, 10 ** 12) for at in range(1000)]
        self.assertGreater(self.quick(desk.lateness, promises, seconds=1), 10 ** 13)
        for call in (desk.state, desk.times, desk.forecast, desk.journal, desk.may_step):
            self.quick(call, seconds=1)
        while desk.journal():
            self.quick(desk.undo, seconds=1)
        self.assertEqual(desk.state(), Desk(Clock(plan, [[Span(1, 1)] * 20] * 12, [[0] * 20] * 12)).state())

    def test_a_thousand_deeds(self):
        desk, chance = Desk(self.clock), random.Random(1)
        before = desk.state()
        for at in range(480):
            self.quick(desk.delay, chance.randrange(1, 12), 19, 10 ** 6, seconds=1)
            # The first train stays the first one, so it need not wait.
            self.quick(desk.exchange, 19, chance.randrange(1, 11), seconds=1)
            if at % 12 == 0:
                self.quick(desk.step, 0, seconds=1)
        self.assertEqual(len(desk.journal()), 1000)
        for _ in range(len(desk.journal())):
            self.quick(desk.undo, seconds=1)
        self.assertEqual((desk.state(), desk.journal()), (before, []))


if __name__ == "__main__":
    unittest.main()
