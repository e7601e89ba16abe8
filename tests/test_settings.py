"""[19] and [20]: routes that can be set together, blockers, greatest settings and phases."""

import random
import unittest
from itertools import combinations

from railhouse.errors import NoRoute, RoutesClash, TooMany
from railhouse.layout import Layout
from railhouse.routes import RouteTable
from railhouse.settings import blockers, can_set, count_settings, greatest_setting, phases, setting
from tests.support import Case, chance_layout, chance_ways, everything, no_blocks

FORK = Layout([40, 40, 60, 60], [(0, 2), (0, 3), (1, 3)])
TABLE = RouteTable(FORK, [[1, 3], [0, 3], [0, 2]])


def fit(table, routes):
    """Tell whether one position for each point and one owner for each block will do."""
    places, blocks = {}, []
    for route in routes:
        blocks += table.claims(route)
        for block, side, branch in table.demands(route):
            if places.setdefault((block, side), branch) != branch:
                return False
    return len(blocks) == len(set(blocks))


def parts_of(routes):
    return [list(part) for number in range(len(routes) + 1) for part in combinations(sorted(set(routes)), number)]


def fewest_phases(table, routes):
    """Return the least number of lists, found by trying all divisions."""
    def divide(left, lists):
        if not left:
            return len(lists)
        best = divide(left[1:], lists + [[left[0]]])
        for at, part in enumerate(lists):
            if fit(table, part + [left[0]]):
                best = min(best, divide(left[1:], lists[:at] + [part + [left[0]]] + lists[at + 1:]))
        return best
    return divide(sorted(set(routes)), [])


def chance_table(seed, many):
    layout = chance_layout(seed, 9, 13, yards=0.4)
    return RouteTable(layout, chance_ways(layout, seed, many, shortest=2), flank=seed % 3 > 0)


def table_of(clashes, many):
    """Return a table of `many` routes of which exactly these pairs clash, each of them over a block of its own."""
    joints = []
    for at in range(0, 2 * len(clashes), 2):
        joints += [(at, at + 1), (at + 1, at + 2), (at, at + 2)]
    yards = list(range(0, 2 * len(clashes) + 1, 2))
    layout = Layout([1] * (2 * len(clashes) + 1), joints, yards=yards)
    sides = {2 * at + 1: pair for at, pair in enumerate(clashes)}
    ways = [[block for block in range(layout.size) if block in yards or route in sides[block]] for route in range(many)]
    return RouteTable(layout, ways)


class SettingTest(Case):
    def test_example(self):
        self.assertEqual(setting(TABLE, [2, 0]), ([(0, "east", 2), (3, "west", 1)], [(2, 2), (3, 0)]))
        self.assertIs(can_set(TABLE, [2, 0]), True)
        self.assertIs(can_set(TABLE, [2, 0, 1]), False)

    def test_no_routes_and_one_route_twice(self):
        self.assertEqual(setting(TABLE, []), ([], []))
        self.assertIs(can_set(TABLE, []), True)
        self.assertIs(can_set(TABLE, [0, 0]), True)
        self.assertEqual(setting(TABLE, [0, 2, 0]), setting(TABLE, [0, 2]))

    def test_by_chance(self):
        for seed in range(60):
            table = chance_table(seed, 6)
            for routes in parts_of(range(table.size)):
                random.Random(seed).shuffle(routes)
                self.assertIs(can_set(table, routes), fit(table, routes))
                if fit(table, routes):
                    positions = sorted({demand for route in routes for demand in table.demands(route)})
                    owners = sorted((block, route) for route in routes for block in table.claims(route))
                    self.assertEqual(setting(table, routes), (positions, owners))
                else:
                    pairs = [pair for pair in combinations(sorted(routes), 2) if table.clash(*pair)]
                    first, second = min(pairs)
                    values = {"first": first, "second": second, "reason": table.clash(first, second)}
                    self.refused(RoutesClash, values, setting, table, routes)

    def test_the_clash_that_is_raised(self):
        table = RouteTable(FORK, [[0, 2], [1, 3], [0, 3], [3, 0]])
        values = {"first": 0, "second": 2, "reason": ("point", 0, "east")}
        self.refused(RoutesClash, values, setting, table, [3, 2, 1, 0])

    def test_no_route_comes_first(self):
        for call in (can_set, setting, greatest_setting, count_settings, phases):
            for route in no_blocks(3):
                self.refused(NoRoute, {"route": route}, call, TABLE, [0, 1, route, 99])

    def test_arguments_and_results(self):
        routes = [2, 0, 2]
        for call in (can_set, setting, greatest_setting, count_settings, phases):
            call(TABLE, routes)
            self.assertEqual(call(table=TABLE, routes=routes), call(TABLE, routes))
        self.assertEqual(routes, [2, 0, 2])
        positions, owners = setting(TABLE, routes)
        positions.clear()
        owners.clear()
        self.assertEqual(setting(TABLE, [2, 0]), ([(0, "east", 2), (3, "west", 1)], [(2, 2), (3, 0)]))


class BlockerTest(Case):
    def test_blockers(self):
        self.assertEqual(blockers(TABLE, [2, 1, 0, 1], 1), [0, 2])
        self.assertEqual(blockers(TABLE, [2, 0], 1), [0, 2])
        self.assertEqual(blockers(TABLE, [1, 2], 0), [1])
        self.assertEqual(blockers(TABLE, [], 0), [])
        self.assertEqual(blockers(TABLE, [0, 0], 0), [])

    def test_a_route_that_is_listed_twice_in_the_table(self):
        table = RouteTable(FORK, [[1, 3], [1, 3]])
        self.assertEqual(blockers(table, [0, 1], 0), [1])

    def test_more_than_ten_routes(self):
        table = RouteTable(FORK, [[0, 3]] * 20)
        self.assertEqual(blockers(table, list(range(20)), 7), [*range(7), *range(8, 20)])

    def test_errors_in_order(self):
        for route in no_blocks(3):
            self.refused(NoRoute, {"route": route}, blockers, TABLE, [0, route], 99)
            self.refused(NoRoute, {"route": route}, blockers, TABLE, [0, 1], route)
            self.refused(NoRoute, {"route": route}, blockers, TABLE, [], route)

    def test_arguments_and_results(self):
        routes = [2, 1, 2]
        blockers(table=TABLE, routes=routes, route=1).clear()
        self.assertEqual(routes, [2, 1, 2])
        self.assertEqual(blockers(TABLE, routes, 1), [2])


class DivisionTest(Case):
    def check_phases(self, table, routes):
        lists = phases(table, routes)
        self.assertEqual(lists, sorted(lists))
        self.assertEqual(sorted(route for part in lists for route in part), sorted(set(routes)))
        for part in lists:
            self.assertEqual(part, sorted(part))
            self.assertTrue(part and fit(table, part))
        return len(lists)

    def test_example(self):
        self.assertEqual(greatest_setting(TABLE, [2, 1, 0]), [0, 2])
        self.assertEqual(count_settings(TABLE, [2, 1, 0]), 5)
        self.assertEqual(self.check_phases(TABLE, [2, 1, 0]), 2)

    def test_no_routes_and_one_route_twice(self):
        self.assertEqual(greatest_setting(TABLE, []), [])
        self.assertEqual(count_settings(TABLE, []), 1)
        self.assertEqual(phases(TABLE, []), [])
        self.assertEqual(greatest_setting(TABLE, [1, 1]), [1])
        self.assertEqual(count_settings(TABLE, [1, 1]), 2)
        self.assertEqual(phases(TABLE, [1, 1]), [[1]])

    def test_the_least_of_several_greatest(self):
        table = RouteTable(FORK, [[0, 3], [0, 2], [1, 3]])
        self.assertEqual(greatest_setting(table, [0, 1]), [0])
        self.assertEqual(greatest_setting(table, [2, 1, 0]), [1, 2])

    def test_by_chance(self):
        for seed in range(60):
            table = chance_table(seed, 7)
            routes = list(range(table.size))
            random.Random(seed).shuffle(routes)
            good = [part for part in parts_of(routes) if fit(table, part)]
            self.assertEqual(count_settings(table, routes), len(good))
            self.assertEqual(greatest_setting(table, routes), min(good, key=lambda part: (-len(part), part)))
            self.assertEqual(self.check_phases(table, routes), fewest_phases(table, routes))

    def test_the_first_division_that_comes_to_mind_is_not_the_least(self):
        # Route 0 clashes with all; 1, 3, 5 and 2, 4, 6 clash crosswise, except each with its partner.
        crown = [(0, route) for route in range(1, 7)]
        crown += [(a, b) for a in (1, 3, 5) for b in (2, 4, 6) if b != a + 1]
        table = table_of(crown, 7)
        self.assertEqual(phases(table, list(range(7))), [[0], [1, 3, 5], [2, 4, 6]])
        self.assertEqual(greatest_setting(table, list(range(7))), [1, 3, 5])
        self.assertEqual(count_settings(table, list(range(7))), 19)
        self.assertEqual(phases(table, list(range(1, 7))), [[1, 3, 5], [2, 4, 6]])

    def test_clashes_by_chance(self):
        for seed in range(25):
            pairs = random.Random(seed).sample(list(combinations(range(8), 2)), 6 + seed % 20)
            table, routes = table_of(pairs, 8), list(range(8))
            good = [part for part in parts_of(routes) if fit(table, part)]
            self.assertEqual(count_settings(table, routes), len(good))
            self.assertEqual(greatest_setting(table, routes), min(good, key=lambda part: (-len(part), part)))
            self.assertEqual(self.check_phases(table, routes), fewest_phases(table, routes))

    def test_ten_and_eleven_different_routes(self):
        table = RouteTable(everything(60), [[0, 1]] * 20)
        ten, eleven = list(range(5, 15)), list(range(5, 16))
        self.assertEqual(greatest_setting(table, ten + ten), ten)
        self.assertEqual(count_settings(table, ten + ten), 1024)
        self.assertEqual(phases(table, ten + ten), [ten])
        for call in (greatest_setting, count_settings, phases):
            self.refused(TooMany, {"number": 11, "limit": 10}, call, table, eleven + ten)
            self.refused(TooMany, {"number": 20, "limit": 10}, call, table, list(range(20)))
            self.refused(NoRoute, {"route": 20}, call, table, eleven + [20])
        self.assertTrue(can_set(table, eleven))
        self.assertEqual(setting(table, eleven), ([], []))

    def test_results_are_new(self):
        phases(TABLE, [0, 2])[0].clear()
        greatest_setting(TABLE, [0, 2]).clear()
        self.assertEqual(phases(TABLE, [0, 2]), [[0, 2]])
        self.assertEqual(greatest_setting(TABLE, [0, 2]), [0, 2])


class BoundTest(Case):
    def test_long_lists(self):
        table = RouteTable(FORK, [[0, 3], [0, 2], [1, 3]] * 6 + [[0, 2]] * 2)
        ten = list(range(10)) * 100
        for call in (greatest_setting, count_settings, phases):
            self.quick(call, table, ten)
        self.assertEqual(len(phases(table, ten)), 7)
        self.assertFalse(self.quick(can_set, table, list(range(20)) * 50))
        self.assertEqual(len(self.quick(blockers, table, list(range(20)) * 50, 0)), 19)

    def test_phases_of_all_kinds(self):
        for seed in range(200):
            layout = chance_layout(seed, 14, 24, yards=0.1)
            table = RouteTable(layout, chance_ways(layout, seed, 20, shortest=2))
            self.quick(phases, table, list(range(min(10, table.size))), seconds=2)


if __name__ == "__main__":
    unittest.main()
