"""[68]: journals that are replayed, and deeds that are performed on a desk, all or none."""

import random
import unittest

from railhouse.clock import Clock
from railhouse.desk import Desk
from railhouse.errors import MustWait, NoBlock, NoPlace, NoStep, NotAlive, NoTrain, OutOfSpan, RailError, RunOver, TooLate
from railhouse.errors import TrainDone
from railhouse.journals import attempt, replay_desk
from railhouse.layout import Layout
from railhouse.plans import Plan
from railhouse.spans import Span
from railhouse.trains import Train
from tests.plain_clock import CLOCK, busy_terms
from tests.plain_desk import do, drawn_deeds, passing_terms, view
from tests.plain_plans import great_plan
from tests.support import Case
from tests.test_desk import THREE_CLOCK

DEEDS = [("step", 0), ("delay", 0, 0, 2), ("exchange", 1, 1), ("step", 0), ("step", 2), ("exchange", 1, 0), ("delay", 1, 2, 4)]
# Each of these is refused on the desk that DEEDS leave behind.
REFUSED = [
    (("step", 3), NoTrain, {"train": 3}), (("delay", -1, 9, 9), NoTrain, {"train": -1}),
    (("delay", 0, 3, 9), NoStep, {"train": 0, "number": 3}), (("delay", 0, 0, 0), RunOver, {"train": 0, "number": 0}),
    (("delay", 1, 2, 1), OutOfSpan, {"train": 1, "number": 2}), (("exchange", 5, 0), NoBlock, {"block": 5}),
    (("exchange", 1, 2), NoPlace, {"block": 1, "at": 2}), (("step", 0), MustWait, {"train": 0, "other": 2, "block": 1}),
]


class AttemptTest(Case):
    def test_all(self):
        desk, other = Desk(THREE_CLOCK), Desk(THREE_CLOCK)
        self.assertEqual(attempt(desk, DEEDS), 7)
        for deed in DEEDS:
            do(other, deed)
        self.assertEqual((view(desk), desk.journal()), (view(other), DEEDS))

    def test_none(self):
        desk = Desk(THREE_CLOCK)
        self.assertEqual((attempt(desk, []), view(desk)), (0, view(Desk(THREE_CLOCK))))

    def test_each_error(self):
        desk = Desk(THREE_CLOCK)
        attempt(desk, DEEDS)
        before = view(desk)
        for deed, error, values in REFUSED:
            for ahead in ([], [("step", 1)], [("delay", 2, 1, 0), ("exchange", 1, 1), ("exchange", 1, 1)]):
                self.refused(error, values, attempt, desk, ahead + [deed, ("step", 99)])
                self.assertEqual(view(desk), before)

    def test_the_errors_of_the_last_moments(self):
        desk = Desk(CLOCK)
        before = view(desk)
        self.refused(TrainDone, {"train": 0}, attempt, desk, [("step", 0)] * 12)
        self.refused(TooLate, {"block": 1, "at": 0}, attempt, desk, [("step", 0)] * 3 + [("exchange", 1, 0)])
        self.refused(NotAlive, {"ring": [0, 1]}, attempt, desk, [("step", 0)] * 3 + [("exchange", 3, 0)])
        self.assertEqual(view(desk), before)

    def test_refused_at_any_place(self):
        refused = 0
        for terms in busy_terms(15) + passing_terms(15):
            deeds, chance = drawn_deeds(terms, 25), random.Random(terms.seed)
            desk = Desk(terms.clock)
            already = chance.randint(0, len(deeds))
            attempt(desk, deeds[:already])
            before = view(desk)
            for at in range(already, len(deeds) + 1):
                for bad in (("step", 99), ("delay", 0, 0, 10 ** 9), ("exchange", -1, 0)):
                    with self.assertRaises(RailError):
                        attempt(desk, deeds[already:at] + [bad] + deeds[at:])
                    self.assertEqual(view(desk), before)
                    refused += 1
            self.assertEqual(attempt(desk, deeds[already:]), len(deeds) - already)
            self.assertEqual(desk.journal(), deeds)
        self.assertGreater(refused, 300)

    def test_the_deeds_are_not_modified(self):
        desk, deeds = Desk(THREE_CLOCK), list(DEEDS)
        attempt(desk=desk, deeds=deeds)
        self.assertEqual(deeds, DEEDS)
        deeds.clear()
        self.assertEqual(desk.journal(), DEEDS)
        with self.assertRaises(RailError):
            attempt(desk, [("step", 1), ("step", 9)])
        self.assertEqual(desk.undo(), DEEDS[-1])


class ReplayTest(Case):
    def test_a_new_desk(self):
        desk = replay_desk(clock=THREE_CLOCK, deeds=DEEDS)
        self.assertEqual(desk.journal(), DEEDS)
        other = replay_desk(THREE_CLOCK, desk.journal())
        self.assertEqual(view(other), view(desk))
        other.run()
        self.assertFalse(desk.finished)
        self.assertEqual(view(replay_desk(THREE_CLOCK, [])), view(Desk(THREE_CLOCK)))

    def test_errors(self):
        for deed, error, values in REFUSED:
            self.refused(error, values, replay_desk, THREE_CLOCK, DEEDS + [deed, ("step", 99)])

    def test_nothing_is_modified(self):
        deeds, times = list(DEEDS), THREE_CLOCK.times()
        desk = replay_desk(THREE_CLOCK, deeds)
        desk.run()
        self.assertEqual((deeds, THREE_CLOCK.times(), THREE_CLOCK.plan.order(1)), (DEEDS, times, [0, 1, 2]))


class BoundTest(Case):
    def test_a_thousand_deeds(self):
        plan = great_plan()
        clock = Clock(plan, [[Span(1, 10 ** 12)] * 20] * 12, [[10 ** 12] * 20] * 12, clearing=10 ** 12)
        deeds = [("step", 0)] * 41 + [("delay", at % 11 + 1, at % 20, 10 ** 9) for at in range(500)]
        deeds += [("step", train) for train in range(1, 12) for _ in range(41)]
        self.assertEqual(len(deeds), 992)
        desk = self.quick(replay_desk, clock, deeds)
        self.assertTrue(desk.finished)
        fresh = Desk(clock)
        self.quick(self.refused, NoTrain, {"train": 12}, attempt, fresh, deeds + [("step", 12)])
        self.assertEqual(fresh.journal(), [])

    def test_a_thousand_exchanges(self):
        # The time of such a call is in proportion to the exchanges.
        layout = Layout([1] * 60, [(at, at + 1) for at in range(59)], yards=list(range(0, 60, 2)))
        plan = Plan(layout, [Train(list(range(20))) for _ in range(12)],
                    [list(range(12)) if block % 2 and block < 20 else [] for block in range(60)])
        clock = Clock(plan, [[Span(1, 1)] * 20] * 12, [[0] * 20] * 12)
        desk = Desk(clock)
        self.assertEqual(self.quick(attempt, desk, [("exchange", 19, 5)] * 1000, seconds=20), 1000)
        self.assertEqual(desk.present.order(19), list(range(12)))


if __name__ == "__main__":
    unittest.main()
