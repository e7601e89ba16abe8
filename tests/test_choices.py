"""[59]: the tables of a line that keep all promises, and the best one."""

import random
import unittest

from railhouse.choices import best_table, keeping_tables
from railhouse.clock import Clock
from railhouse.counting import all_tables
from railhouse.errors import BadTimes, NoStep, NoTrain, TooMany
from railhouse.line import Line
from railhouse.promises import greatest_lateness
from railhouse.spans import Span
from railhouse.tables import line_plan
from tests.plain_clock import Terms
from tests.plain_lines import WIDE, chance_terms
from tests.support import GREAT, Case, no_blocks
from tests.test_counting import EXACT, ONE_MORE, wide_line

# One train in each direction over two sections; each run takes 5 or 6, each dwell 1.
LINE = Line([9, 9, 9], [5, 5], [1], [1])
RUNS, DWELLS = [[Span(5, 6)] * 5] * 2, [[1] * 5] * 2


def plain_rows(terms, runs, dwells, promises, starts, clearing):
    """Return each good table with the greatest lateness of its plan under all highs, by slow means."""
    found = []
    for table in terms.good_tables():
        plan = terms.plan(terms.orders(table))
        clock = Terms(plan, 0)
        clock.runs, clock.dwells, clock.starts, clock.clearing = runs, dwells, starts, clearing
        times = clock.times(clock.picked(True))
        found.append((table, max([times[(train, 2 * step + 1)] - latest for train, step, latest in promises], default=0)))
    return found


class KeepingTest(Case):
    def test_one_pair(self):
        # Train 0 arrives at 34 if it need not wait; train 1 waits for it in the yard of the table.
        rows = []
        for table in all_tables(LINE):
            times = Clock(line_plan(LINE, table), RUNS, DWELLS).times(late=True)
            rows.append((table[0][0], times[0][9], times[1][9]))
        self.assertEqual(rows, [(0, 61, 34), (1, 34, 34), (2, 34, 61)])
        self.assertEqual(keeping_tables(LINE, RUNS, DWELLS, [(0, 4, 34)]), [[[1]], [[2]]])
        self.assertEqual(keeping_tables(LINE, RUNS, DWELLS, [(0, 4, 34), (1, 4, 60)]), [[[1]]])
        self.assertEqual(keeping_tables(LINE, RUNS, DWELLS, [(1, 4, 34)]), [[[0]], [[1]]])

    def test_promises_that_no_table_keeps(self):
        self.assertEqual(keeping_tables(LINE, RUNS, DWELLS, [(0, 4, 33)]), [])
        self.assertEqual(keeping_tables(LINE, RUNS, DWELLS, [(0, 4, 100), (1, 4, 33)]), [])

    def test_a_promise_that_is_kept_under_all_lows_only(self):
        self.assertEqual(keeping_tables(LINE, [[Span(5, 5)] * 5] * 2, DWELLS, [(0, 4, 29)]), [[[1]], [[2]]])
        self.assertEqual(keeping_tables(LINE, RUNS, DWELLS, [(0, 4, 29)]), [])

    def test_no_promises(self):
        self.assertEqual(keeping_tables(LINE, RUNS, DWELLS, []), [[[0]], [[1]], [[2]]])
        self.assertEqual(best_table(LINE, RUNS, DWELLS, []), ([[0]], 0))

    def test_starts_and_clearing(self):
        self.assertEqual(keeping_tables(LINE, RUNS, DWELLS, [(0, 4, 34)], starts=[0, 1]), [[[1]], [[2]]])
        self.assertEqual(keeping_tables(LINE, RUNS, DWELLS, [(0, 4, 34)], starts=(1, 0)), [])
        # In the middle each train waits for the other one's release of a section, which is as late as its own arrival.
        self.assertEqual(keeping_tables(LINE, RUNS, DWELLS, [(0, 4, 34)], clearing=9), [[[2]]])
        self.assertEqual(best_table(LINE, RUNS, DWELLS, [(0, 4, 34)], clearing=9), ([[2]], 0))
        self.assertEqual(best_table(LINE, RUNS, DWELLS, [(0, 4, 34)], starts=(1, 0)), ([[1]], 1))

    def test_without_trains_of_a_direction(self):
        line = Line([9, 9, 9], [5, 5], [1], [])
        runs, dwells = [[Span(5, 6)] * 5], [[1] * 5]
        self.assertEqual(keeping_tables(line, runs, dwells, [(0, 4, 34)]), [[[]]])
        self.assertEqual(keeping_tables(line, runs, dwells, [(0, 4, 33)]), [])
        self.assertEqual(best_table(line, runs, dwells, [(0, 4, 40)]), ([[]], -6))
        empty = Line([9, 9], [5], [], [])
        self.assertEqual((keeping_tables(empty, [], [], []), best_table(empty, [], [], [])), ([[]], ([], 0)))
        self.refused(NoTrain, {"train": 0}, best_table, empty, [], [], [(0, 0, 1)])


class BestTest(Case):
    def test_one_pair(self):
        self.assertEqual(best_table(LINE, RUNS, DWELLS, [(0, 4, 30), (1, 4, 30)]), ([[1]], 4))
        self.assertEqual(best_table(LINE, RUNS, DWELLS, [(0, 4, 60), (1, 4, 30)]), ([[0]], 4))
        self.assertEqual(best_table(LINE, RUNS, DWELLS, [(0, 4, 30), (1, 4, 60)]), ([[1]], 4))
        self.assertEqual(best_table(LINE, RUNS, DWELLS, [(0, 4, 30), (1, 4, 65)], clearing=9), ([[2]], 5))

    def test_two_tables_of_the_same_lateness(self):
        # The tables [[1]] and [[2]] let train 0 through alike.
        self.assertEqual(best_table(LINE, RUNS, DWELLS, [(0, 4, 30)]), ([[1]], 4))
        self.assertEqual(best_table(LINE, RUNS, DWELLS, [(1, 0, 10 ** 12)]), ([[0]], 6 - 10 ** 12))

    def test_a_negative_lateness(self):
        self.assertEqual(best_table(LINE, RUNS, DWELLS, [(0, 4, 40), (1, 4, 50)]), ([[1]], -6))

    def test_against_a_slow_search(self):
        kinds = {}
        for seed, size in enumerate([(2, 2, 2), (1, 2, 2), (3, 1, 2), (3, 2, 1), (2, 2, 1), (4, 1, 1)] * 4):
            chance = random.Random(seed)
            terms = chance_terms(seed, *size)
            many, steps = size[1] + size[2], 2 * size[0] + 1
            lows = [[chance.randint(1, 6) for _ in range(steps)] for _ in range(many)]
            runs = [[Span(low, low + chance.randint(0, 3)) for low in row] for row in lows]
            dwells = [[chance.randint(0, 2) for _ in range(steps)] for _ in range(many)]
            starts = [chance.randint(0, 20) for _ in range(many)] if seed % 3 else []
            named = {"starts": starts, "clearing": seed % 4}
            promises = [(chance.randrange(many), chance.randrange(steps), chance.randint(30, 90)) for _ in range(seed % 4)]
            rows = plain_rows(terms, runs, dwells, promises, starts, seed % 4)
            kept = [table for table, lateness in rows if lateness <= 0]
            self.assertEqual(keeping_tables(terms.line, runs, dwells, promises, **named), kept)
            least = min(lateness for _, lateness in rows)
            best = [table for table, lateness in rows if lateness == least]
            self.assertEqual(best_table(terms.line, runs, dwells, promises, **named), (best[0], least))
            for kind in ("none" if not kept else "all" if len(kept) == len(rows) else "some", len(best) > 1):
                kinds[kind] = kinds.get(kind, 0) + 1
        self.assertTrue(all(kinds.get(kind, 0) > 3 for kind in ("none", "some", "all", True, False)), kinds)


class ErrorTest(Case):
    def test_too_many_stands_first(self):
        for call in (keeping_tables, best_table):
            self.refused(TooMany, {"number": 201, "limit": 200}, call, ONE_MORE.line, [], [], [(99, 0, 0)])
            self.refused(TooMany, {"number": 336, "limit": 200}, call, wide_line(6, 2, 2), [], [], [], starts=[-1])

    def test_then_the_errors_of_a_clock(self):
        for call in (keeping_tables, best_table):
            for runs, dwells, starts, train in (
                ([], DWELLS, (), 0), (RUNS, [], (), 0), (RUNS[:1], DWELLS, (), 1), (RUNS, [[1] * 5, [1] * 4], (), 1),
                (RUNS, DWELLS, [0], 1), (RUNS, DWELLS, (0, -1), 1), (RUNS + [[]], DWELLS, (), 2),
                ([[Span(0, 6)] * 5, RUNS[1]], DWELLS, (), 0), (RUNS, DWELLS + [[]], (), 2), (RUNS, DWELLS, [0, 0, 0], 2),
            ):
                self.refused(BadTimes, {"train": train}, call, LINE, runs, dwells, [(99, 0, 0)], starts=starts)

    def test_then_those_of_promises(self):
        for call in (keeping_tables, best_table):
            for train in no_blocks(2):
                self.refused(NoTrain, {"train": train}, call, LINE, RUNS, DWELLS, [(0, 0, 0), (train, 9, 0), (0, 5, 0)])
            for step in (-1, 5, GREAT, -GREAT):
                self.refused(NoStep, {"train": 1, "number": step}, call, LINE, RUNS, DWELLS, [(1, step, 0), (9, 0, 0)])


class CopyTest(Case):
    def test_nothing_is_modified_and_all_is_new(self):
        runs, dwells, promises, starts = [list(row) for row in RUNS], [list(row) for row in DWELLS], [(0, 4, 34)], [0, 0]
        named = {"line": LINE, "runs": runs, "dwells": dwells, "promises": promises, "starts": starts, "clearing": 0}
        found = keeping_tables(**named)
        found[0][0].clear()
        found.clear()
        table, _ = best_table(**named)
        table[0].clear()
        self.assertEqual((runs, dwells, promises, starts), (RUNS, DWELLS, [(0, 4, 34)], [0, 0]))
        self.assertEqual((keeping_tables(**named), best_table(**named)), ([[[1]], [[2]]], ([[1]], 0)))
        with self.assertRaises(TypeError):
            keeping_tables(LINE, RUNS, DWELLS, [], [0, 0])
        with self.assertRaises(TypeError):
            best_table(LINE, RUNS, DWELLS, [], turning=1)


class BoundTest(Case):
    def test_exactly_200_tables(self):
        runs, dwells = [[Span(10 ** 12 - 9, 10 ** 12)] * 9] * 5, [[10 ** 12] * 9] * 5
        named = {"starts": [10 ** 12] * 5, "clearing": 10 ** 12}
        promises = [(at % 5, at % 9, 30 * 10 ** 12) for at in range(1000)]
        found = self.quick(keeping_tables, EXACT.line, runs, dwells, promises, **named)
        table, lateness = self.quick(best_table, EXACT.line, runs, dwells, promises, **named)
        clock = Clock(line_plan(EXACT.line, table), runs, dwells, **named)
        self.assertEqual(lateness, greatest_lateness(clock, promises))
        self.assertEqual(found == [], lateness > 0)
        self.assertEqual(len(self.quick(keeping_tables, EXACT.line, runs, dwells, [], **named)), 200)

    def test_two_and_two(self):
        runs, dwells = [[Span(5, 6)] * 5] * 4, [[0] * 5] * 4
        self.assertEqual(len(self.quick(keeping_tables, WIDE.line, runs, dwells, [], seconds=1)), 20)


if __name__ == "__main__":
    unittest.main()
