"""Single lines by chance, and what [54] to [57] say of their tables, word by word."""

import random
from itertools import combinations, product

from railhouse.line import Line
from railhouse.plans import Plan


class Terms:
    """What a line was created with."""

    def __init__(self, yards, sections, east, west):
        self.yards, self.sections, self.east, self.west = yards, sections, east, west
        self.line = Line(yards, sections, east, west)
        self.pairs = [(i, j) for i in range(len(east)) for j in range(len(west))]

    def all_fillings(self):
        """Return every table whose entries are yards of the line, ascending."""
        wide, found = len(self.west), []
        for entries in product(range(len(self.yards)), repeat=len(self.pairs)):
            found.append([list(entries[i * wide:(i + 1) * wide]) for i in range(len(self.east))])
        return found

    def faults(self, table):
        """Return all faults in the order of [55]."""
        found = []
        for i, j in self.pairs:
            yard = table[i][j]
            if i > 0 and yard > table[i - 1][j]:
                found.append(("east", i, j))
            if j > 0 and yard < table[i][j - 1]:
                found.append(("west", i, j))
            at_an_end = yard in (0, len(self.sections))
            if not at_an_end and self.east[i] > self.yards[yard] and self.west[j] > self.yards[yard]:
                found.append(("fit", i, j))
        return found

    def good_tables(self):
        return [table for table in self.all_fillings() if not self.faults(table)]

    def goes_first(self, table, section, first, second):
        """Tell whether a train takes the section before another one."""
        many = len(self.east)
        if (first < many) == (second < many):
            return first < second
        if first < many:
            return section <= table[first][second - many]
        return section > table[second][first - many]

    def orders(self, table):
        """Return the orders of a table: each train stands behind all those that go before it."""
        trains = range(len(self.east) + len(self.west))
        found = [[] for _ in range(2 * len(self.sections) + 1)]
        for section in range(1, len(self.sections) + 1):
            ahead = {train: [other for other in trains if self.goes_first(table, section, other, train)]
                     for train in trains}
            found[2 * section - 1] = sorted(trains, key=lambda train: len(ahead[train]) - (train in ahead[train]))
        return found

    def all_orders(self):
        """Return every list of orders in which the trains of one direction stand in the order of their numbers."""
        many, total = len(self.east), len(self.east) + len(self.west)
        merged = []
        for places in combinations(range(total), many):
            eastward, westward = iter(range(many)), iter(range(many, total))
            merged.append([next(eastward) if place in places else next(westward) for place in range(total)])
        found = []
        for chosen in product(merged, repeat=len(self.sections)):
            orders = [[] for _ in range(2 * len(self.sections) + 1)]
            orders[1::2] = [list(order) for order in chosen]
            found.append(orders)
        return found

    def plan(self, orders):
        return Plan(self.line.layout, self.line.trains(), orders)


def chance_terms(seed, sections=2, east=2, west=2):
    """Return the terms of a line of exactly this size with lengths by chance; some trains fit into few yards."""
    chance = random.Random(seed)

    def lengths(many):
        return [chance.randint(1, 6) for _ in range(many)]

    return Terms(lengths(sections + 1), [chance.choice((1, 2, 9)) for _ in range(sections)],
                 [chance.randint(1, 9) for _ in range(east)], [chance.randint(1, 9) for _ in range(west)])


def orders_of(plan):
    return [plan.order(block) for block in range(plan.layout.size)]


# Trains of 70 and 60 that no yard but the ends can hold both; the second section ends in a yard for one of them.
NARROW = Terms([200, 50, 65, 200], [100, 100, 100], [70], [60])
WIDE = Terms([200, 200, 200], [100, 100], [70, 80], [60, 50])
