"""[13] and [14]: ways that are apart, and cuts."""

import random
import unittest
from itertools import combinations

from railhouse.errors import NoBlock
from railhouse.layout import Layout
from railhouse.sides import are_apart, is_cut, side_by_side
from railhouse.ways import heading
from tests.support import Case, chance_layout, every_way, everything, ladder, no_blocks

DIAMOND = Layout([40, 30, 30, 50], [(0, 1), (0, 2), (1, 3), (2, 3)])


def ways_of(layout, starts, goals):
    return [way for way in every_way(layout) if way[0] in starts and way[-1] in goals]


def least_cuts(layout, starts, goals):
    """Return all cuts with the fewest blocks."""
    ways = ways_of(layout, starts, goals)
    for number in range(layout.size + 1):
        found = [
            list(closed) for closed in combinations(range(layout.size), number)
            if all(any(block in closed for block in way) for way in ways)
        ]
        if found:
            return found


def reached(layout, starts, closed):
    """Return the blocks that can be reached eastward from a start without entering a closed block."""
    ways = [way for way in every_way(layout) if way[0] in starts]
    return {way[-1] for way in ways if not any(block in closed for block in way)}


class SideBySideTest(Case):
    def check(self, layout, starts, goals):
        ways, cut = side_by_side(layout, starts, goals)
        self.assertEqual(ways, sorted(ways))
        self.assertTrue(are_apart(ways))
        for way in ways:
            self.assertIn(way, ways_of(layout, starts, goals))
        cuts = least_cuts(layout, starts, goals)
        self.assertIn(cut, cuts)
        self.assertEqual(len(ways), len(cut))
        for other in cuts:
            self.assertLessEqual(reached(layout, starts, cut), reached(layout, starts, other))

    def test_by_chance(self):
        for seed in range(150):
            layout = chance_layout(seed, 8, 14, yards=0.4)
            chance = random.Random(seed)
            starts = chance.sample(range(8), chance.randint(0, 4))
            goals = chance.sample(range(8), chance.randint(0, 4))
            self.check(layout, starts, goals)
            self.check(layout, starts[::-1] + starts, goals + goals)

    def test_great_layouts_by_chance(self):
        # As many ways as blocks in the cut: then neither more ways nor a smaller cut is possible.
        for seed in range(150):
            layout = chance_layout(seed, 30, 60, yards=0.3)
            chance = random.Random(seed)
            starts, goals = chance.sample(range(18), 6), chance.sample(range(12, 30), 6)
            ways, cut = side_by_side(layout, starts, goals)
            self.assertEqual((ways, cut), (sorted(ways), sorted(cut)))
            self.assertTrue(are_apart(ways) and is_cut(layout, starts, goals, cut))
            self.assertEqual(len(ways), len(cut))
            for way in ways:
                self.assertTrue(way[0] in starts and way[-1] in goals)
                self.assertEqual(heading(layout, way), "east")

    def test_a_way_that_has_to_give_way(self):
        # The way 0, 2, 5 has to turn aside, or there is no second one.
        layout = Layout([1] * 6, [(0, 2), (0, 3), (1, 2), (2, 4), (2, 5), (3, 5)])
        self.assertEqual(side_by_side(layout, [0, 1], [4, 5]), ([[0, 3, 5], [1, 2, 4]], [0, 1]))

    def test_the_nearest_cut(self):
        layout = Layout([1] * 5, [(0, 2), (1, 2), (2, 3), (3, 4)])
        self.assertEqual(side_by_side(layout, [0, 1], [4])[1], [2])
        self.assertEqual(side_by_side(layout, [0], [4]), ([[0, 2, 3, 4]], [0]))

    def test_a_yard_counts_as_one_block(self):
        layout = Layout([1] * 5, [(0, 2), (1, 2), (2, 3), (2, 4)], yards=[2])
        ways, cut = side_by_side(layout, [0, 1], [3, 4])
        self.assertEqual((len(ways), cut), (1, [2]))

    def test_starts_that_are_goals(self):
        self.assertEqual(side_by_side(DIAMOND, [1, 2], [1, 2]), ([[1], [2]], [1, 2]))
        self.assertEqual(side_by_side(DIAMOND, [0, 1, 2, 3], [0, 1, 2, 3])[0], [[0], [1], [2], [3]])

    def test_nothing_to_join(self):
        for starts, goals in (([], [0]), ([0], []), ([], []), ([1], [2]), ([3], [0])):
            self.assertEqual(side_by_side(DIAMOND, starts, goals), ([], []))
        self.assertEqual(side_by_side(Layout([], []), [], []), ([], []))

    def test_errors_in_order(self):
        for block in no_blocks(4):
            self.refused(NoBlock, {"block": block}, side_by_side, DIAMOND, [0, block, 88], [77])
            self.refused(NoBlock, {"block": block}, side_by_side, DIAMOND, [0, 3], [1, block, 88])

    def test_arguments_and_results(self):
        starts, goals = [1, 2, 1], [2, 1]
        ways, cut = side_by_side(layout=DIAMOND, starts=starts, goals=goals)
        self.assertEqual((starts, goals), ([1, 2, 1], [2, 1]))
        ways[0].append(3)
        cut.clear()
        self.assertEqual(side_by_side(DIAMOND, starts, goals), ([[1], [2]], [1, 2]))

    def test_very_many_ways(self):
        ways, cut = self.quick(side_by_side, ladder(30), [0, 1], [58, 59])
        self.assertEqual((len(ways), cut), (2, [0, 1]))
        ways, cut = self.quick(side_by_side, everything(60), list(range(30)), list(range(30, 60)))
        self.assertEqual((len(ways), cut), (30, list(range(30))))
        ways, cut = self.quick(side_by_side, everything(60), [0] * 1000, [59] * 1000)
        self.assertEqual((len(ways), cut), (1, [0]))
        self.assertTrue(self.quick(is_cut, ladder(30), [0, 1] * 500, [58, 59] * 500, [30, 31] * 500))


class CutTest(Case):
    def test_as_all_ways_tell(self):
        for seed in range(60):
            layout = chance_layout(seed, 7, 10, yards=0.4)
            chance = random.Random(seed)
            starts = chance.sample(range(7), 2)
            goals = chance.sample(range(7), 2)
            for number in range(3):
                for closed in combinations(range(7), number):
                    ways = ways_of(layout, starts, goals)
                    cut = all(any(block in closed for block in way) for way in ways)
                    self.assertIs(is_cut(layout, starts, goals, list(closed)), cut)

    def test_nothing_to_cut(self):
        for starts, goals in (([], [0]), ([0], []), ([], []), ([1], [2]), ([3], [0])):
            self.assertIs(is_cut(DIAMOND, starts, goals, []), True)
        self.assertIs(is_cut(DIAMOND, [1], [1], []), False)
        self.assertIs(is_cut(DIAMOND, [1], [1], [1]), True)

    def test_errors_in_order(self):
        for block in no_blocks(4):
            self.refused(NoBlock, {"block": block}, is_cut, DIAMOND, [0, block], [77], [88])
            self.refused(NoBlock, {"block": block}, is_cut, DIAMOND, [0], [1, block], [88])
            self.refused(NoBlock, {"block": block}, is_cut, DIAMOND, [0], [1], [2, block, 99])

    def test_by_name(self):
        closed = [1, 1, 2]
        self.assertIs(is_cut(layout=DIAMOND, starts=[0], goals=[3], closed=closed), True)
        self.assertEqual(closed, [1, 1, 2])


class ApartTest(Case):
    def test_apart(self):
        for ways, answer in (
            ([], True), ([[]], True), ([[1, 2], [3]], True), ([[1, 2], [2]], False), ([[1, 2, 1]], False),
            ([[1], [2], [3, 1]], False), ([[10 ** 12, -4]], True),
        ):
            self.assertIs(are_apart(ways), answer)
        self.assertIs(are_apart(ways=[[0], [0]]), False)

    def test_long_lists(self):
        self.assertIs(self.quick(are_apart, [list(range(at, at + 100)) for at in range(0, 100000, 100)]), True)


if __name__ == "__main__":
    unittest.main()
