"""[54] to [56]: tables of single lines, their faults, orders and plans."""

import unittest
from itertools import permutations

from railhouse.counting import all_tables
from railhouse.errors import BadTable, NoTable, TableFault
from railhouse.line import Line
from railhouse.plans import Plan
from railhouse.tables import first_fault, line_orders, line_plan, table_of
from tests.plain_lines import NARROW, WIDE, chance_terms, orders_of
from tests.plain_plans import plain_run_out
from tests.support import GREAT, Case

SMALL = [(1, 1, 1), (1, 2, 2), (2, 2, 1), (2, 1, 2), (2, 2, 2), (3, 1, 2), (3, 2, 1), (2, 3, 1), (4, 1, 1), (6, 1, 1)]


def is_alive(plan):
    return len(plain_run_out(plan)) == plan.total


def picture(plan):
    trains = [plan.train_of(train) for train in range(plan.size)]
    return plan.layout, [(train.blocks(), train.length) for train in trains], orders_of(plan), plan.turns()


class FaultTest(Case):
    def test_each_kind(self):
        line = WIDE.line
        self.assertIsNone(first_fault(line, [[1, 2], [0, 1]]))
        self.assertEqual(first_fault(line, [[1, 2], [2, 2]]), ("east", 1, 0))
        self.assertEqual(first_fault(line, [[2, 2], [2, 1]]), ("west", 1, 1))
        self.assertEqual(first_fault(line, [[1, 1], [0, 2]]), ("east", 1, 1))
        self.assertEqual(first_fault(line, [[1, 0], [0, 0]]), ("west", 0, 1))
        self.assertEqual(first_fault(NARROW.line, [[1]]), ("fit", 0, 0))

    def test_equal_entries_are_no_fault(self):
        for yard in range(3):
            self.assertIsNone(first_fault(WIDE.line, [[yard, yard], [yard, yard]]))

    def test_a_yard_that_exactly_one_of_two_trains_fits(self):
        self.assertEqual([first_fault(NARROW.line, [[yard]]) for yard in range(4)], [None, ("fit", 0, 0), None, None])
        for yard, fault in ((59, ("fit", 0, 0)), (60, None), (61, None), (69, None), (70, None)):
            for east, west in ((70, 60), (60, 70)):
                self.assertEqual(first_fault(Line([1, yard, 1], [9, 9], [east], [west]), [[1]]), fault)

    def test_the_ends_hold_every_train(self):
        line = Line([1, 1, 1], [9, 9], [70], [60])
        self.assertEqual([first_fault(line, [[yard]]) for yard in range(3)], [None, ("fit", 0, 0), None])

    def test_the_first_pair(self):
        # No yard but the ends holds two of these trains.
        line = Line([1, 1, 1, 1], [9, 9, 9], [5, 5], [5, 5])
        self.assertEqual(first_fault(line, [[3, 0], [3, 1]]), ("west", 0, 1))
        self.assertEqual(first_fault(line, [[0, 3], [0, 2]]), ("fit", 1, 1))
        self.assertEqual(first_fault(line, [[0, 3], [1, 3]]), ("east", 1, 0))
        self.assertEqual(first_fault(line, [[3, 3], [0, 3]]), None)
        self.assertEqual(first_fault(line, [[1, 0], [3, 2]]), ("fit", 0, 0))

    def test_several_kinds_at_one_pair(self):
        # Only eastbound train 1 and westbound train 1 never meet in between.
        line = Line([1, 1, 1, 1], [9, 9, 9], [1, 5], [1, 5])
        self.assertEqual(first_fault(line, [[1, 1], [1, 2]]), ("east", 1, 1))
        self.assertEqual(first_fault(line, [[3, 3], [3, 1]]), ("west", 1, 1))
        self.assertEqual(first_fault(line, [[3, 3], [1, 1]]), ("fit", 1, 1))
        self.assertEqual(first_fault(line, [[3, 0], [2, 1]]), ("west", 0, 1))
        self.assertEqual(first_fault(line, [[1, 1], [3, 2]]), ("east", 1, 0))

    def test_without_trains_of_a_direction(self):
        self.assertIsNone(first_fault(Line([1, 1], [1], [], []), []))
        self.assertIsNone(first_fault(Line([1, 1], [1], [], [3, 4]), []))
        self.assertIsNone(first_fault(Line([1, 1], [1], [3, 4], []), [[], []]))

    def test_by_chance(self):
        kinds = {}
        for seed, size in enumerate(SMALL * 9):
            terms = chance_terms(seed, *size)
            for table in terms.all_fillings()[seed % 2::2]:
                faults = terms.faults(table)
                found = first_fault(terms.line, table)
                self.assertEqual(found, faults[0] if faults else None)
                kind = found[0] if found else None
                kinds[kind] = kinds.get(kind, 0) + 1
        self.assertTrue(all(kinds[kind] > 50 for kind in ("east", "west", "fit", None)), kinds)


class OrderTest(Case):
    def test_one_pair(self):
        line = NARROW.line
        found = [line_orders(line, [[yard]]) for yard in range(4)]
        self.assertEqual(found, [
            [[], [1, 0], [], [1, 0], [], [1, 0], []],
            [[], [0, 1], [], [1, 0], [], [1, 0], []],
            [[], [0, 1], [], [0, 1], [], [1, 0], []],
            [[], [0, 1], [], [0, 1], [], [0, 1], []],
        ])

    def test_two_and_two(self):
        self.assertEqual(line_orders(WIDE.line, [[1, 2], [0, 1]]), [[], [0, 2, 1, 3], [], [2, 0, 3, 1], []])
        self.assertEqual(line_orders(WIDE.line, [[0, 0], [0, 0]]), [[], [2, 3, 0, 1], [], [2, 3, 0, 1], []])
        self.assertEqual(line_orders(WIDE.line, [[2, 2], [2, 2]]), [[], [0, 1, 2, 3], [], [0, 1, 2, 3], []])

    def test_trains_of_one_direction_stand_in_the_order_of_their_numbers(self):
        self.assertEqual(line_orders(Line([1, 1, 1], [9, 9], [3, 4, 5], []), [[], [], []]),
                         [[], [0, 1, 2], [], [0, 1, 2], []])
        self.assertEqual(line_orders(Line([1, 1], [9], [], [3, 4]), []), [[], [0, 1], []])

    def test_without_trains(self):
        line = Line([1, 1, 1], [9, 9], [], [])
        self.assertEqual(line_orders(line, []), [[]] * 5)
        self.assertEqual((line_plan(line, []).size, table_of(line, line_plan(line, []))), (0, []))

    def test_a_fault_fit_alone_is_not_refused(self):
        self.assertEqual(first_fault(NARROW.line, [[1]]), ("fit", 0, 0))
        self.assertEqual(line_orders(NARROW.line, [[1]])[1::2], [[0, 1], [1, 0], [1, 0]])
        self.assertFalse(is_alive(line_plan(NARROW.line, [[1]])))

    def test_faults_of_order_are_refused(self):
        # A fault "fit" that comes first is passed over.
        line = Line([1, 1, 1, 1], [9] * 3, [5, 5], [5, 5])
        for table, fault in (
            ([[1, 1], [2, 2]], ("east", 1, 0)), ([[1, 0], [2, 0]], ("west", 0, 1)), ([[1, 2], [0, 3]], ("east", 1, 1)),
            ([[3, 3], [2, 1]], ("west", 1, 1)), ([[2, 1], [3, 0]], ("west", 0, 1)), ([[1, 1], [2, 1]], ("east", 1, 0)),
            ([[2, 2], [2, 3]], ("east", 1, 1)),
        ):
            kind, east, west = fault
            for call in (line_orders, line_plan):
                self.refused(TableFault, {"kind": kind, "east": east, "west": west}, call, line, table)

    def test_the_plan(self):
        plan = line_plan(WIDE.line, [[1, 2], [0, 1]])
        layout, trains, orders, turns = picture(plan)
        self.assertEqual(layout, WIDE.line.layout)
        self.assertEqual(trains, [(list(range(5)), 70), (list(range(5)), 80), ([4, 3, 2, 1, 0], 60), ([4, 3, 2, 1, 0], 50)])
        self.assertEqual((orders, turns), (line_orders(WIDE.line, [[1, 2], [0, 1]]), []))

    def test_all_tables_of_small_lines(self):
        alive, dead = 0, 0
        for seed, size in enumerate(SMALL * 6):
            terms = chance_terms(seed, *size)
            for table in terms.all_fillings():
                faults = terms.faults(table)
                refused = [fault for fault in faults if fault[0] != "fit"]
                if refused:
                    kind, east, west = refused[0]
                    self.refused(TableFault, {"kind": kind, "east": east, "west": west}, line_orders, terms.line, table)
                    continue
                self.assertEqual(line_orders(terms.line, table), terms.orders(table))
                plan = line_plan(terms.line, table)
                self.assertEqual(picture(plan), picture(terms.plan(terms.orders(table))))
                self.assertEqual(is_alive(plan), faults == [])
                self.assertEqual(table_of(terms.line, plan), table)
                alive, dead = alive + (faults == []), dead + (faults != [])
        self.assertGreater(min(alive, dead), 60)

    def test_great_lines(self):
        for seed, size in enumerate([(6, 4, 4), (6, 4, 3), (6, 2, 4), (3, 4, 4)]):
            terms = chance_terms(seed, *size)
            wide = size[2]
            for low in range(size[0]):
                table = [[min(size[0], max(0, low + j - i)) for j in range(wide)] for i in range(size[1])]
                self.assertEqual(line_orders(terms.line, table), terms.orders(table))
                self.assertEqual(is_alive(line_plan(terms.line, table)), terms.faults(table) == [])
                self.assertEqual(table_of(terms.line, line_plan(terms.line, table)), table)


class TableOfTest(Case):
    def test_one_pair(self):
        orders = [[[], list(first), [], list(second), []] for first in ((0, 1), (1, 0)) for second in ((0, 1), (1, 0))]
        line = Line([9, 9, 9], [5, 5], [1], [1])
        plans = [Plan(line.layout, line.trains(), order) for order in orders]
        self.assertEqual([table_of(line, plan) for plan in plans[:2] + plans[3:]], [[[2]], [[1]], [[0]]])
        self.refused(NoTable, {"east": 0, "west": 0}, table_of, line, plans[2])

    def test_each_alive_plan_is_the_plan_of_one_table(self):
        alive, refused, dead = 0, 0, 0
        for seed, size in enumerate([(1, 2, 2), (2, 2, 2), (2, 2, 1), (3, 1, 2), (3, 2, 2), (2, 3, 2), (4, 1, 1)] * 2):
            terms = chance_terms(seed, *size)
            tables = [table for table in terms.all_fillings() if all(kind == "fit" for kind, _, _ in terms.faults(table))]
            known = {str(terms.orders(table)): table for table in tables}
            self.assertEqual(len(known), len(tables))
            for orders in terms.all_orders()[seed % 2::2]:
                plan = terms.plan(orders)
                table = known.get(str(orders))
                if table is None:
                    self.assertFalse(is_alive(plan))
                    with self.assertRaises(NoTable):
                        table_of(terms.line, plan)
                    refused += 1
                else:
                    self.assertEqual(table_of(terms.line, plan), table)
                    self.assertEqual(is_alive(plan), terms.faults(table) == [])
                    alive, dead = alive + (terms.faults(table) == []), dead + (terms.faults(table) != [])
        self.assertGreater(min(alive, refused, dead), 20, (alive, refused, dead))

    def test_any_order_of_the_trains(self):
        # Trains of one direction need not stand in the order of their numbers.
        line = Line([9, 9, 9], [5, 5], [1, 1], [1])
        found = {}
        for first in permutations(range(3)):
            for second in permutations(range(3)):
                plan = Plan(line.layout, line.trains(), [[], list(first), [], list(second), []])
                firsts = [[order.index(east) < order.index(2) for order in (first, second)] for east in range(2)]
                bad = [east for east in range(2) if firsts[east] == [False, True]]
                if bad:
                    self.refused(NoTable, {"east": bad[0], "west": 0}, table_of, line, plan)
                else:
                    self.assertEqual(table_of(line, plan), [[sum(row)] for row in firsts])
                found[bool(bad)] = found.get(bool(bad), 0) + 1
        self.assertEqual(found, {False: 22, True: 14})
        swapped = Plan(line.layout, line.trains(), [[], [1, 2, 0], [], [1, 2, 0], []])
        self.assertEqual(table_of(line, swapped), [[0], [2]])

    def test_the_least_pair(self):
        line = Line([9] * 4, [5] * 3, [1, 1], [1, 1])
        good, bad = [0, 1, 2, 3], [2, 3, 0, 1]

        def plan(*orders):
            return Plan(line.layout, line.trains(), [[], orders[0], [], orders[1], [], orders[2], []])

        self.refused(NoTable, {"east": 0, "west": 0}, table_of, line, plan(bad, good, good))
        self.refused(NoTable, {"east": 0, "west": 0}, table_of, line, plan(good, bad, good))
        self.refused(NoTable, {"east": 0, "west": 1}, table_of, line, plan([2, 3, 0, 1], [2, 0, 3, 1], [2, 0, 3, 1]))
        self.refused(NoTable, {"east": 1, "west": 0}, table_of, line, plan([0, 2, 1, 3], [0, 2, 1, 3], [0, 1, 2, 3]))
        self.refused(NoTable, {"east": 1, "west": 1}, table_of, line, plan([2, 0, 3, 1], [2, 0, 3, 1], [2, 0, 1, 3]))

    def test_a_plan_that_is_dead(self):
        plan = line_plan(NARROW.line, [[1]])
        self.assertFalse(is_alive(plan))
        self.assertEqual(table_of(NARROW.line, plan), [[1]])

    def test_turns_do_not_matter(self):
        line = Line([9, 9], [5], [1], [1])
        plan = Plan(line.layout, line.trains(), [[], [0, 1], []], turns=[(0, 1)])
        self.assertEqual(table_of(line, plan), [[1]])

    def test_without_trains_of_a_direction(self):
        for east, west, table in (([], [], []), ([], [3, 4], []), ([3, 4], [], [[], []])):
            line = Line([1, 1, 1], [9, 9], east, west)
            self.assertEqual(table_of(line, line_plan(line, table)), table)


class BadTableTest(Case):
    def test_each_condition(self):
        line = Line([9] * 4, [5] * 3, [1, 1], [1, 1, 1])
        good = [0, 1, 2]
        for table, east, west in (
            ([], 0, 0), ([good], 1, 0), ([[], good], 0, 0), ([[0], good], 0, 1), ([[0, 0], good], 0, 2),
            ([good, []], 1, 0), ([good, [0, 0]], 1, 2), ([good + [0], good], 0, 3), ([good, good + [0]], 1, 3),
            ([good, good, []], 2, 0), ([good, good, good], 2, 0), ([good] * 1000, 2, 0),
            ([[-1, 0, 0], good], 0, 0), ([[0, 0, 4], good], 0, 2), ([good, [0, GREAT, 0]], 1, 1),
            ([good, [0, 0, -GREAT]], 1, 2), ([good, [0, -1, 0]], 1, 1), ([good, [4, 0, 0]], 1, 0),
        ):
            for call in (first_fault, line_orders, line_plan):
                self.refused(BadTable, {"east": east, "west": west}, call, line, table)

    def test_the_least_pair(self):
        line = Line([9] * 4, [5] * 3, [1, 1], [1, 1, 1])
        for table, east, west in (
            ([[0, -1], [-1]], 0, 1), ([[0, 0, 0, 0], []], 0, 3), ([[0, 0, 9, 0], []], 0, 2), ([[0, 0], [], []], 0, 2),
            ([[0, 0, 0], [0, 0], []], 1, 2), ([[0, 0, 0], [0, 0, 0, 9], []], 1, 3), ([[], [], []], 0, 0),
            ([[0, 0, 0, 0, 9, -1]], 0, 3),
        ):
            self.refused(BadTable, {"east": east, "west": west}, first_fault, line, table)

    def test_without_trains_of_a_direction(self):
        east = Line([1, 1], [1], [3, 4], [])
        for table, i, j in (([], 0, 0), ([[]], 1, 0), ([[0], []], 0, 0), ([[], [0]], 1, 0), ([[], [], []], 2, 0)):
            self.refused(BadTable, {"east": i, "west": j}, first_fault, east, table)
        west = Line([1, 1], [1], [], [3, 4])
        for table in ([[]], [[0, 0]], [[], []]):
            for call in (first_fault, line_orders, line_plan):
                self.refused(BadTable, {"east": 0, "west": 0}, call, west, table)

    def test_the_ends_of_the_numbers(self):
        for sections in (1, 6):
            line = Line([9] * (sections + 1), [5] * sections, [1], [1])
            for entry in range(sections + 1):
                self.assertIsNone(first_fault(line, [[entry]]))
            for entry in (-1, sections + 1, sections + 2):
                self.refused(BadTable, {"east": 0, "west": 0}, first_fault, line, [[entry]])

    def test_before_a_fault(self):
        line = Line([9] * 4, [5] * 3, [1, 1], [1, 1])
        for call in (line_orders, line_plan, first_fault):
            self.refused(BadTable, {"east": 1, "west": 1}, call, line, [[2, 1], [3, 4]])
            self.refused(BadTable, {"east": 2, "west": 0}, call, line, [[2, 1], [3, 0], []])


class CopyTest(Case):
    def test_nothing_is_modified_and_all_is_new(self):
        line, table = WIDE.line, [[1, 2], [0, 1]]
        orders = line_orders(line=line, table=table)
        plan = line_plan(line=line, table=table)
        self.assertIsNone(first_fault(line=line, table=table))
        self.assertEqual(table, [[1, 2], [0, 1]])
        orders[1].clear()
        orders.clear()
        table[0][0] = 0
        table.clear()
        found = table_of(line=line, plan=plan)
        self.assertEqual(found, [[1, 2], [0, 1]])
        found[0].clear()
        found.clear()
        self.assertEqual(table_of(line, plan), [[1, 2], [0, 1]])
        self.assertEqual(line_orders(line, [[1, 2], [0, 1]])[1], [0, 2, 1, 3])
        self.assertEqual(len(all_tables(line)), 20)


class BoundTest(Case):
    def test_the_greatest_line(self):
        line = Line([10 ** 12] * 7, [10 ** 12] * 6, [10 ** 12] * 4, [10 ** 12] * 4)
        table = [[3] * 4] * 4
        plan = self.quick(line_plan, line, table, seconds=1)
        self.assertEqual(self.quick(table_of, line, plan, seconds=1), table)
        self.assertIsNone(self.quick(first_fault, line, table, seconds=1))


if __name__ == "__main__":
    unittest.main()
