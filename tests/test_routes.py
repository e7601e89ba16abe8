"""[15] to [18]: route tables, joint demands, flank demands, claims and clashes."""

import random
import unittest

from railhouse.errors import BadRoute, NoRoute
from railhouse.layout import Layout
from railhouse.routes import RouteTable, flank_demands, joint_demands
from tests.support import Case, chance_layout, chance_ways, everything, ladder, no_blocks

FORK = Layout([40, 40, 60, 60], [(0, 2), (0, 3), (1, 3)])
# A crossover: 0 - 2 - 4 and 1 - 3 - 5, with a joint from 2 to 5.
CROSSOVER = Layout([1] * 6, [(0, 2), (1, 3), (2, 4), (2, 5), (3, 5)])


def ends(layout, u, v):
    return ((u, "east"), (v, "west")) if u < v else ((u, "west"), (v, "east"))


def plain_joint_demands(layout, u, v):
    """Return what [16] says, word by word."""
    end_u, end_v = ends(layout, u, v)
    return [(*end_u, v)] * (end_u in layout.points()) + [(*end_v, u)] * (end_v in layout.points())


def plain_flank_demands(layout, u, v, on_way):
    """Return what [17] says, word by word."""
    found = []
    for block, side, branch in plain_joint_demands(layout, u, v):
        branches = layout.branches(block, side)
        w = branches[1 - branches.index(branch)]
        end = (w, "west" if side == "east" else "east")
        if end in layout.points():
            x = [other for other in layout.branches(*end) if other != block][0]
            if w not in on_way and x not in on_way:
                found.append((*end, x))
    return found


def plain_demands(layout, way, flank):
    found = set()
    for u, v in zip(way, way[1:]):
        found.update(plain_joint_demands(layout, u, v))
        if flank:
            found.update(plain_flank_demands(layout, u, v, way))
    return sorted(found)


class DemandTest(Case):
    def test_joint_demands(self):
        self.assertEqual(joint_demands(FORK, 0, 3), [(0, "east", 3), (3, "west", 0)])
        self.assertEqual(joint_demands(FORK, 3, 0), [(0, "east", 3), (3, "west", 0)])
        self.assertEqual(joint_demands(FORK, 0, 2), [(0, "east", 2)])
        self.assertEqual(joint_demands(FORK, 3, 1), [(3, "west", 1)])
        self.assertEqual(joint_demands(Layout([1, 1], [(0, 1)]), 0, 1), [])
        self.assertEqual(joint_demands(layout=FORK, before=2, after=0), [(0, "east", 2)])

    def test_flank_demands(self):
        self.assertEqual(flank_demands(FORK, 0, 2, [0, 2]), [(3, "west", 1)])
        self.assertEqual(flank_demands(FORK, 1, 3, [1, 3]), [(0, "east", 2)])
        self.assertEqual(flank_demands(FORK, 0, 3, [0, 3]), [])
        self.assertEqual(flank_demands(CROSSOVER, 2, 4, [0, 2, 4]), [(5, "west", 3)])
        self.assertEqual(flank_demands(CROSSOVER, 4, 2, [4, 2, 0]), [(5, "west", 3)])
        self.assertEqual(flank_demands(CROSSOVER, 3, 5, [1, 3, 5]), [(2, "east", 4)])
        self.assertEqual(flank_demands(CROSSOVER, 2, 5, [0, 2, 5]), [])
        self.assertEqual(flank_demands(layout=FORK, before=0, after=2, on_way=[0, 2]), [(3, "west", 1)])

    def test_no_flank_where_a_block_of_it_is_on_the_way(self):
        self.assertEqual(flank_demands(FORK, 0, 2, [0, 2, 3]), [])
        self.assertEqual(flank_demands(FORK, 0, 2, [0, 2, 1]), [])

    def test_the_end_of_a_yard_is_no_point(self):
        yards = Layout([40, 40, 60, 60], [(0, 2), (0, 3), (1, 3)], yards=[0])
        self.assertEqual(joint_demands(yards, 0, 2), [])
        self.assertEqual(joint_demands(yards, 0, 3), [(3, "west", 0)])
        self.assertEqual(flank_demands(yards, 1, 3, [1, 3]), [])
        yards = Layout([40, 40, 60, 60], [(0, 2), (0, 3), (1, 3)], yards=[3])
        self.assertEqual(flank_demands(yards, 0, 2, [0, 2]), [])

    def test_two_flanks_in_ascending_order(self):
        layout = Layout([1] * 8, [(1, 4), (1, 5), (2, 5), (0, 4), (0, 6), (3, 6), (2, 7)])
        self.assertEqual(joint_demands(layout, 1, 4), [(1, "east", 4), (4, "west", 1)])
        self.assertEqual(flank_demands(layout, 1, 4, [1, 4]), [(0, "east", 6), (5, "west", 2)])
        self.assertEqual(flank_demands(layout, 4, 1, [1, 4]), [(0, "east", 6), (5, "west", 2)])

    def test_as_the_points_say(self):
        for seed in range(40):
            layout = chance_layout(seed, 9, 14)
            for way in chance_ways(layout, seed, 30, shortest=2):
                for u, v in zip(way, way[1:]):
                    self.assertEqual(joint_demands(layout, u, v), sorted(plain_joint_demands(layout, u, v)))
                    for on_way in ([u, v], way):
                        flanks = sorted(plain_flank_demands(layout, u, v, on_way))
                        self.assertEqual(flank_demands(layout, u, v, on_way), flanks)

    def test_arguments_and_results(self):
        on_way = [2, 0]
        flank_demands(FORK, 0, 2, on_way).clear()
        joint_demands(FORK, 0, 2).clear()
        self.assertEqual(on_way, [2, 0])
        self.assertEqual(flank_demands(FORK, 0, 2, on_way), [(3, "west", 1)])
        self.assertEqual(joint_demands(FORK, 0, 2), [(0, "east", 2)])


class TableTest(Case):
    def test_example(self):
        table = RouteTable(FORK, [[1, 3], [0, 3], [0, 2]])
        self.assertEqual(table.size, 3)
        self.assertEqual([table.route_way(route) for route in range(3)], [[1, 3], [0, 3], [0, 2]])
        self.assertEqual([table.claims(route) for route in range(3)], [[3], [3], [2]])
        self.assertEqual(table.demands(0), [(0, "east", 2), (3, "west", 1)])
        self.assertEqual(table.clash(0, 1), ("block", 3, ""))
        self.assertIsNone(table.clash(0, 2))

    def test_without_routes(self):
        table = RouteTable(FORK, [])
        self.assertEqual(table.size, 0)
        self.refused(NoRoute, {"route": 0}, table.claims, 0)

    def test_without_flank(self):
        table = RouteTable(FORK, [[1, 3], [0, 3], [0, 2]], flank=False)
        self.assertEqual(table.demands(0), [(3, "west", 1)])
        self.assertEqual(table.demands(2), [(0, "east", 2)])
        self.assertEqual(RouteTable(FORK, [[1, 3]], flank=True).demands(0), RouteTable(FORK, [[1, 3]]).demands(0))

    def test_claims_are_plain_and_ascending(self):
        layout = Layout([1] * 4, [(0, 1), (1, 2), (2, 3)], yards=[2])
        table = RouteTable(layout, [[3, 2, 1, 0], [0, 1, 2], [2, 1], [1, 2]])
        self.assertEqual([table.claims(route) for route in range(4)], [[0, 1], [1], [1], []])

    def test_a_route_may_be_listed_twice(self):
        table = RouteTable(FORK, [[1, 3], [1, 3]])
        self.assertEqual(table.clash(0, 1), ("block", 3, ""))

    def test_by_chance(self):
        for seed in range(40):
            layout = chance_layout(seed, 9, 13)
            ways = chance_ways(layout, seed, 20, shortest=2)
            for flank in (True, False):
                table = RouteTable(layout, ways, flank=flank)
                for route in range(table.size):
                    plain = sorted(block for block in ways[route][1:] if not layout.is_yard(block))
                    self.assertEqual(table.claims(route), plain)
                    self.assertEqual(table.demands(route), plain_demands(layout, ways[route], flank))
                    points = [demand[:2] for demand in table.demands(route)]
                    self.assertEqual(len(points), len(set(points)))

    def test_errors_of_the_constructor(self):
        good = [1, 3]
        for bad in ([], [0], [0, 1], [0, 3, 1], [-1, 0], [0, 4], [0, 10 ** 12], [3, 3]):
            self.refused(BadRoute, {"route": 0}, RouteTable, FORK, [bad])
            self.refused(BadRoute, {"route": 2}, RouteTable, FORK, [good, good, bad, good, []])
            self.refused(BadRoute, {"route": 1}, RouteTable, FORK, [good, bad], flank=False)

    def test_errors_of_the_methods(self):
        table = RouteTable(FORK, [[1, 3], [0, 3], [0, 2]])
        for route in no_blocks(3):
            for method in (table.claims, table.demands, table.route_way):
                self.refused(NoRoute, {"route": route}, method, route)
            self.refused(NoRoute, {"route": route}, table.clash, route, 77)
            self.refused(NoRoute, {"route": route}, table.clash, 2, route)

    def test_by_name(self):
        table = RouteTable(layout=FORK, ways=[[1, 3], [0, 3]], flank=False)
        self.assertEqual(table.clash(first=0, second=1), ("block", 3, ""))
        self.assertEqual([table.claims(route=0), table.demands(route=0), table.route_way(route=0)],
                         [[3], [(3, "west", 1)], [1, 3]])
        with self.assertRaises(TypeError):
            RouteTable(FORK, [], True)

    def test_arguments_and_results(self):
        ways = [[1, 3], [0, 2]]
        table = RouteTable(FORK, ways)
        self.assertEqual(ways, [[1, 3], [0, 2]])
        ways[0][0] = 0
        ways.append([0, 3])
        for method in (table.claims, table.demands, table.route_way):
            before = list(method(0))
            method(0).clear()
            self.assertEqual(method(0), before)
        self.assertEqual((table.size, table.route_way(0)), (2, [1, 3]))
        self.assertEqual(table.demands(0), [(0, "east", 2), (3, "west", 1)])


class ClashTest(Case):
    def test_the_least_block(self):
        layout = Layout([1] * 4, [(0, 1), (1, 2), (2, 3)])
        table = RouteTable(layout, [[0, 1, 2, 3], [3, 2, 1, 0], [1, 0]])
        self.assertEqual(table.clash(0, 1), ("block", 1, ""))
        self.assertEqual(table.clash(1, 0), ("block", 1, ""))
        self.assertEqual(table.clash(1, 2), ("block", 0, ""))
        self.assertIsNone(table.clash(0, 2))

    def test_the_least_point(self):
        table = RouteTable(CROSSOVER, [[2, 4], [5, 2, 0], [1, 3, 5]])
        self.assertEqual(table.clash(0, 1), ("point", 2, "east"))
        self.assertEqual(table.clash(1, 2), ("point", 2, "east"))
        plain = RouteTable(CROSSOVER, [[2, 4], [5, 2, 0], [1, 3, 5]], flank=False)
        self.assertEqual(plain.clash(0, 1), ("point", 2, "east"))
        self.assertEqual(plain.clash(1, 2), ("point", 5, "west"))
        self.assertIsNone(plain.clash(0, 2))

    def test_both_ends_of_a_block(self):
        layout = Layout([1] * 5, [(0, 2), (1, 2), (2, 3), (2, 4)])
        table = RouteTable(layout, [[2, 3], [2, 4], [2, 0], [2, 1]])
        self.assertEqual(table.clash(0, 1), ("point", 2, "east"))
        self.assertEqual(table.clash(2, 3), ("point", 2, "west"))
        self.assertIsNone(table.clash(0, 2))

    def test_a_block_comes_before_a_point(self):
        table = RouteTable(FORK, [[0, 3], [1, 3]])
        self.assertEqual(table.clash(0, 1), ("block", 3, ""))

    def test_the_same_route_twice(self):
        layout = Layout([1] * 4, [(0, 1), (1, 2), (1, 3)], yards=[2, 3])
        table = RouteTable(layout, [[1, 2], [0, 1, 2], [1, 0], [1, 3]])
        self.assertIsNone(table.clash(0, 0))
        self.assertEqual(table.clash(1, 1), ("block", 1, ""))
        self.assertEqual(table.clash(2, 2), ("block", 0, ""))
        self.assertEqual(table.clash(0, 3), ("point", 1, "east"))

    def test_by_chance(self):
        for seed in range(40):
            layout = chance_layout(seed, 9, 13, yards=0.4)
            chance = random.Random(seed)
            table = RouteTable(layout, chance_ways(layout, seed, 12, shortest=2), flank=chance.random() < 0.7)
            for first in range(table.size):
                for second in range(table.size):
                    self.assertEqual(table.clash(first, second), self.plain_clash(table, first, second))

    def plain_clash(self, table, first, second):
        for block in range(60):
            if block in table.claims(first) and block in table.claims(second):
                return ("block", block, "")
        for block, side, branch in table.demands(first):
            for other in table.demands(second):
                if other[:2] == (block, side) and other[2] != branch:
                    return ("point", block, side)
        return None


class BoundTest(Case):
    def test_twenty_long_routes(self):
        layout = ladder(30)
        ways = [list(range(at % 2, 60, 2))[::(-1) ** at] for at in range(20)]
        table = self.quick(RouteTable, layout, ways)
        for first in range(20):
            for second in range(20):
                self.assertEqual(table.clash(first, second) is None, first % 2 != second % 2)
        full = self.quick(RouteTable, everything(60), [list(range(60))] * 20)
        self.assertIsNone(full.clash(0, 1))

    def test_long_lists(self):
        self.refused(BadRoute, {"route": 3}, RouteTable, FORK, [[1, 3], [0, 3], [0, 2], [0, 2] * 500])


if __name__ == "__main__":
    unittest.main()
