"""[57]: how many tables without faults there are, and which."""

import unittest
from fractions import Fraction
from itertools import product

from railhouse.counting import all_tables, count_tables
from railhouse.errors import TooMany
from railhouse.line import Line
from railhouse.tables import first_fault
from tests.plain_lines import NARROW, Terms, chance_terms
from tests.support import Case

# Lines with exactly 200 tables, and with one less and one more.
EXACT = Terms([9, 2, 3, 4, 9], [5, 5, 5, 5], [2, 3, 4], [2, 4])
ONE_LESS = Terms([9, 3, 9], [5, 5], [3, 4, 3], [4, 3, 4, 2])
ONE_MORE = Terms([9, 1, 9], [5, 5], [2, 1, 3, 4], [2, 2, 1, 3])


def wide_line(sections, east, west):
    """Return a line in which every train fits into every yard."""
    return Line([5] * (sections + 1), [1] * sections, [5] * east, [4] * west)


def plain_product(sections, east, west):
    number = Fraction(1)
    for i, j, k in product(range(1, east + 1), range(1, west + 1), range(1, sections + 1)):
        number *= Fraction(i + j + k - 1, i + j + k - 2)
    return number


class CountTest(Case):
    def test_the_product(self):
        for sections, east, west in product(range(1, 7), range(5), range(5)):
            self.assertEqual(count_tables(wide_line(sections, east, west)), plain_product(sections, east, west))

    def test_without_trains(self):
        for sections in (1, 6):
            for east, west in ((0, 0), (0, 4), (4, 0)):
                line = Line([1] * (sections + 1), [1] * sections, [9] * east, [9] * west)
                self.assertEqual((count_tables(line), all_tables(line)), (1, [[[]] * east]))

    def test_trains_that_fit_nowhere(self):
        # Only the ends are left, so the line counts as one of one section.
        for sections, east, west in product(range(1, 7), range(1, 4), range(1, 4)):
            line = Line([1] * (sections + 1), [1] * sections, [9] * east, [9] * west)
            self.assertEqual(count_tables(line), plain_product(1, east, west))

    def test_a_yard_that_exactly_one_of_two_trains_fits(self):
        self.assertEqual((count_tables(NARROW.line), all_tables(NARROW.line)), (3, [[[0]], [[2]], [[3]]]))
        for yard, tables in ((59, 2), (60, 3), (69, 3), (70, 3)):
            for east, west in ((70, 60), (60, 70)):
                self.assertEqual(count_tables(Line([1, yard, 1], [9, 9], [east], [west])), tables)

    def test_a_train_as_long_as_the_yards_is_no_exception(self):
        self.assertEqual(count_tables(Line([5] * 4, [9] * 3, [5, 5], [5, 5])), plain_product(3, 2, 2))
        self.assertEqual(count_tables(Line([5] * 4, [9] * 3, [6, 6], [6, 6])), plain_product(1, 2, 2))

    def test_against_a_slow_search(self):
        sizes = [(1, 2, 2), (2, 2, 2), (3, 2, 1), (3, 1, 3), (2, 3, 1), (2, 2, 3), (3, 2, 2), (6, 1, 2), (5, 2, 1)]
        listed = 0
        for seed, size in enumerate(sizes * 4):
            terms = chance_terms(seed, *size)
            tables = terms.good_tables()
            self.assertEqual(count_tables(terms.line), len(tables))
            if len(tables) <= 200:
                self.assertEqual(all_tables(terms.line), tables)
                listed += len(tables)
        self.assertGreater(listed, 300)


class AllTablesTest(Case):
    def test_example(self):
        self.assertEqual(all_tables(Line([9, 9, 9], [5, 5], [1], [1])), [[[0]], [[1]], [[2]]])
        self.assertEqual(count_tables(Line([9, 9, 9], [5, 5], [1, 1], [1])), 6)

    def test_ascending(self):
        self.assertEqual(all_tables(wide_line(1, 2, 2)), [
            [[0, 0], [0, 0]], [[0, 1], [0, 0]], [[0, 1], [0, 1]], [[1, 1], [0, 0]], [[1, 1], [0, 1]], [[1, 1], [1, 1]],
        ])

    def test_exactly_200_tables(self):
        tables = all_tables(EXACT.line)
        self.assertEqual((count_tables(EXACT.line), len(tables)), (200, 200))
        self.assertEqual(tables, sorted(tables))
        self.assertEqual(len({str(table) for table in tables}), 200)
        self.assertTrue(all(first_fault(EXACT.line, table) is None and EXACT.faults(table) == [] for table in tables))
        self.assertEqual(len(all_tables(ONE_LESS.line)), 199)
        self.assertEqual(len(all_tables(wide_line(5, 2, 2))), 196)

    def test_more_than_200(self):
        self.refused(TooMany, {"number": 201, "limit": 200}, all_tables, ONE_MORE.line)
        self.refused(TooMany, {"number": 336, "limit": 200}, all_tables, wide_line(6, 2, 2))
        self.refused(TooMany, {"number": plain_product(6, 4, 4), "limit": 200}, all_tables, wide_line(6, 4, 4))

    def test_new(self):
        line = wide_line(1, 2, 2)
        tables = all_tables(line=line)
        tables[5][1][0] = 7
        self.assertEqual(tables[4], [[1, 1], [0, 1]])
        tables[0].clear()
        tables.clear()
        self.assertEqual(all_tables(line)[5], [[1, 1], [1, 1]])
        self.assertEqual(count_tables(line=line), 6)
        rows = all_tables(Line([1, 1], [1], [1, 1], []))[0]
        rows[0].append(1)
        self.assertEqual(rows, [[1], []])


class BoundTest(Case):
    def test_the_greatest_line(self):
        line = Line([10 ** 12] * 7, [10 ** 12] * 6, [10 ** 12] * 4, [10 ** 12] * 4)
        self.assertEqual(self.quick(count_tables, line, seconds=2), plain_product(6, 4, 4))
        self.quick(self.refused, TooMany, {"number": plain_product(6, 4, 4), "limit": 200}, all_tables, line, seconds=4)
        self.quick(all_tables, EXACT.line, seconds=1)
        # One of the yards holds some trains only, so few tables are left of very many.
        tight = Line([1] * 7, [10 ** 12] * 6, [2] * 4, [2] * 4)
        self.assertEqual(len(self.quick(all_tables, tight, seconds=1)), 70)


if __name__ == "__main__":
    unittest.main()
