"""What [67] to [69] say of a desk, word by word: it keeps its deeds alone, and does all else anew."""

import random
from copy import copy, deepcopy

from railhouse.layout import Layout
from railhouse.errors import MustWait, NoBlock, NoPlace, NoStep, NotAlive, NoTrain, OutOfSpan, RunOver, TooLate, TrainDone
from railhouse.plans import Plan
from railhouse.rings import standstill
from railhouse.trains import Train, releases
from tests.plain_clock import Terms
from tests.plain_lines import orders_of
from tests.plain_plans import all_events, chance_orders, chance_turns, picture, plain_pairs, plain_run_out


class PlainDesk:
    def __init__(self, terms):
        self.terms = terms
        self.deeds = []

    def plan(self, more=()):
        """Return the plan after the exchanges, and perhaps after one more."""
        orders = orders_of(self.terms.plan)
        for word, *numbers in self.deeds + list(more):
            if word == "exchange":
                block, place = numbers
                orders[block][place:place + 2] = orders[block][place:place + 2][::-1]
        trains = [self.terms.plan.train_of(train) for train in range(self.terms.plan.size)]
        return Plan(self.terms.plan.layout, trains, orders, turns=self.terms.plan.turns())

    def driving(self):
        return [deed[1] for deed in self.deeds if deed[0] == "step"]

    def done(self):
        return [self.driving().count(train) for train in range(self.terms.plan.size)]

    def running(self):
        found = self.terms.picked(False)
        for word, *numbers in self.deeds:
            if word == "delay":
                found[numbers[0]][numbers[1]] += numbers[2]
        return found

    def forecast(self):
        terms = copy(self.terms)
        terms.plan = self.plan()
        return terms.rows(self.running())

    def times(self):
        return [row[:many] for row, many in zip(self.forecast(), self.done())]

    def free(self, train):
        """Tell whether the next event of the train may happen."""
        done = self.done()
        event = (train, done[train])
        befores = [first for first, second in plain_pairs(self.plan()) if second == event]
        return event in all_events(self.plan()) and all(number < done[other] for other, number in befores)

    def holders(self, block):
        found, done = [], self.done()
        for train in range(self.terms.plan.size):
            runner = self.terms.plan.train_of(train)
            for step, other in enumerate(runner.blocks()):
                if other == block and 2 * step < done[train] <= releases(self.terms.plan.layout, runner)[step]:
                    found.append(train)
        return found

    def state(self):
        return self.done(), self.running(), orders_of(self.plan()), self.times()

    def error(self, deed):
        """Return the error that [67] names for the deed, as `(class, attributes)`, or None."""
        return {"step": self.step_error, "delay": self.delay_error, "exchange": self.exchange_error}[deed[0]](*deed[1:])

    def step_error(self, train):
        if not 0 <= train < self.terms.plan.size:
            return NoTrain, {"train": train}
        number, runner = self.done()[train], self.terms.plan.train_of(train)
        if number > runner.last:
            return TrainDone, {"train": train}
        if self.free(train):
            return None
        for first, second in self.terms.plan.turns():
            if number == 0 and second == train and self.done()[first] <= self.terms.plan.train_of(first).last:
                return MustWait, {"train": train, "other": first, "block": -1}
        block = runner.blocks()[number // 2]
        order = self.plan().order(block)
        return MustWait, {"train": train, "other": order[order.index(train) - 1], "block": block}

    def delay_error(self, train, step, amount):
        if not 0 <= train < self.terms.plan.size:
            return NoTrain, {"train": train}
        if not 0 <= step < self.terms.plan.train_of(train).steps:
            return NoStep, {"train": train, "number": step}
        if 2 * step + 1 < self.done()[train]:
            return RunOver, {"train": train, "number": step}
        if self.running()[train][step] + amount > self.terms.runs[train][step].high:
            return OutOfSpan, {"train": train, "number": step}
        return None

    def exchange_error(self, block, place):
        if not 0 <= block < self.terms.plan.layout.size:
            return NoBlock, {"block": block}
        order = self.plan().order(block)
        if not 0 <= place < len(order) - 1:
            return NoPlace, {"block": block, "at": place}
        if self.done()[order[place]] > 2 * self.terms.plan.train_of(order[place]).blocks().index(block):
            return TooLate, {"block": block, "at": place}
        found = standstill(self.plan([("exchange", block, place)]))
        return (NotAlive, {"ring": found[2]}) if found else None

    def perform(self, deed):
        """Add an accepted deed and return what the desk should return for it."""
        self.deeds.append(deed)
        if deed[0] == "step":
            return self.times()[deed[1]][-1]
        if deed[0] == "delay":
            return self.running()[deed[1]][deed[2]]
        first, second = self.plan().order(deed[1])[deed[2]:deed[2] + 2]
        return first, second


def passing_terms(count):
    """Return the terms of clocks over trains that can pass each other in yards."""
    layout, found, seed = Layout([3, 4] * 3 + [3], [(at, at + 1) for at in range(6)], yards=[0, 2, 4, 6]), [], 0
    while len(found) < count:
        seed += 1
        chance = random.Random(seed)
        ways = [list(range(first, last)) for first in range(0, 5, 2) for last in range(first + 3, 8, 2)]
        trains = [Train(chance.choice(ways)[::chance.choice((1, 1, 1, -1))], length=chance.randint(1, 4)) for _ in range(4)]
        plan = Plan(layout, trains, chance_orders(layout, trains, chance), turns=chance_turns(layout, trains)[:seed % 2])
        if len(plain_run_out(plan)) == plan.total:
            found.append(Terms(plan, seed))
    return found


def do(desk, deed):
    """Perform a deed on a desk and return what it returns."""
    return {"step": desk.step, "delay": desk.delay, "exchange": desk.exchange}[deed[0]](*deed[1:])


def view(desk):
    """Return all that a desk tells of itself, in lists that nobody else has."""
    holders = [desk.holders(block) for block in range(desk.present.layout.size)]
    done = [desk.done(train) for train in range(desk.present.size)]
    told = desk.state(), desk.journal(), holders, desk.forecast(), desk.times(), desk.may_step(), done, desk.finished
    return deepcopy(told), picture(desk.present)


def chance_deed(chance, plan, widest):
    """Return a deed that is often refused."""
    word = chance.choice(("step", "step", "step", "delay", "exchange"))
    train = chance.choice([-1, plan.size] + list(range(plan.size)) * 8)
    if word == "step":
        return word, train
    if word == "delay":
        return word, train, chance.choice([-1, 5] + list(range(5)) * 4), chance.randint(0, widest)
    blocks = [block for block in range(plan.layout.size) if len(plan.order(block)) > 1] or [0]
    return word, chance.choice([-1, plan.layout.size] + blocks * 6), chance.choice([-1] + list(range(4)) * 4)


def drawn_deeds(terms, many, seed=0):
    """Return deeds of every kind by chance, all of which are accepted."""
    chance, desk = random.Random(terms.seed + seed), PlainDesk(terms)
    for _ in range(many):
        deed = chance_deed(chance, desk.plan(), 3)
        if desk.error(deed) is None:
            desk.deeds.append(deed)
    return desk.deeds
