"""[10] to [12]: ways, headings, lengths, distances, least ways, and all ways."""

import inspect
import unittest
from itertools import islice

from railhouse.errors import BadWay, NoBlock, NoWay
from railhouse.layout import Layout
from railhouse.ways import count_ways, distances, each_way, heading, least_way, way_length
from tests.support import GREAT, Case, chance_layout, every_way, everything, ladder, no_blocks

DIAMOND = Layout([40, 30, 30, 50], [(0, 1), (0, 2), (1, 3), (2, 3)])


def ways_between(layout, start, goal):
    """Return all ways between two blocks, ascending."""
    west, east = min(start, goal), max(start, goal)
    ways = [way for way in every_way(layout) if way[0] == west and way[-1] == east]
    return sorted([way if start <= goal else way[::-1] for way in ways])


def length_of(layout, way):
    return sum(layout.length_of(block) for block in way)


class HeadingTest(Case):
    def test_headings(self):
        self.assertEqual(heading(DIAMOND, [0, 1, 3]), "east")
        self.assertEqual(heading(DIAMOND, [3, 2, 0]), "west")
        self.assertEqual(heading(DIAMOND, [1, 0]), "west")
        for block in range(4):
            self.assertEqual(heading(DIAMOND, [block]), "east")

    def test_lengths(self):
        self.assertEqual(way_length(DIAMOND, [0, 1, 3]), 120)
        self.assertEqual(way_length(DIAMOND, [3, 2]), 80)
        self.assertEqual(way_length(DIAMOND, [2]), 30)
        self.assertEqual(way_length(Layout([GREAT, 1], [(0, 1)]), [1, 0]), GREAT + 1)

    def test_by_name(self):
        self.assertEqual(heading(layout=DIAMOND, way=[0, 1]), "east")
        self.assertEqual(way_length(layout=DIAMOND, way=[0, 1]), 70)

    def test_bad_ways(self):
        for call in (heading, way_length):
            for way, at in (
                ([], 0), ([0, 1, 2], 1), ([0, 3], 0), ([1, 2, 3], 0), ([0, 1, 0], 1), ([3, 1, 3], 1), ([3, 2, 1], 1),
                ([0, 0], 0), ([0, 1, 1], 1), ([0, 1, 3, 3], 2), ([3, 1, 0, 1, 0], 2), ([0, 1, 0, 2, 1], 1),
            ):
                self.refused(BadWay, {"at": at}, call, DIAMOND, way)

    def test_no_block_comes_before_a_bad_way(self):
        for call in (heading, way_length):
            for block in no_blocks(4):
                self.refused(NoBlock, {"block": block}, call, DIAMOND, [0, 3, 1, block, 99])
                self.refused(NoBlock, {"block": block}, call, DIAMOND, [block])

    def test_without_blocks(self):
        self.refused(BadWay, {"at": 0}, heading, Layout([], []), [])
        self.refused(NoBlock, {"block": 0}, heading, Layout([], []), [0])

    def test_every_list_of_three(self):
        for seed in range(6):
            layout = chance_layout(seed, 6, 8)
            ways = every_way(layout)
            for number in range(216):
                blocks = [number // 36, number // 6 % 6, number % 6]
                if blocks in ways or blocks[::-1] in ways:
                    self.assertEqual(heading(layout, blocks), "east" if blocks in ways else "west")
                else:
                    east, west = layout.joined(blocks[0], blocks[1]), layout.joined(blocks[1], blocks[0])
                    self.refused(BadWay, {"at": 1 if east or west else 0}, heading, layout, blocks)


class DistanceTest(Case):
    def test_example(self):
        self.assertEqual(distances(DIAMOND, 0), [40, 70, 70, 120])
        self.assertEqual(distances(DIAMOND, 1), [70, 30, None, 80])
        self.assertEqual(distances(DIAMOND, 3), [120, 80, 80, 50])

    def test_as_all_ways_tell(self):
        for seed in range(30):
            layout = chance_layout(seed, 8, 11)
            for start in range(8):
                found = distances(layout, start)
                for goal in range(8):
                    ways = ways_between(layout, start, goal)
                    least = min([length_of(layout, way) for way in ways], default=None)
                    self.assertEqual(found[goal], least)

    def test_no_block(self):
        for block in no_blocks(4):
            self.refused(NoBlock, {"block": block}, distances, DIAMOND, block)
        self.refused(NoBlock, {"block": 0}, distances, Layout([], []), 0)

    def test_new_lists_and_names(self):
        distances(DIAMOND, 0).clear()
        self.assertEqual(distances(layout=DIAMOND, start=0), [40, 70, 70, 120])
        least_way(DIAMOND, 0, 3).clear()
        self.assertEqual(least_way(layout=DIAMOND, start=0, goal=3), [0, 1, 3])


class LeastWayTest(Case):
    def test_as_all_ways_tell(self):
        for seed in range(30):
            layout = chance_layout(seed, 8, 12, longest=2)
            for start in range(8):
                for goal in range(8):
                    ways = ways_between(layout, start, goal)
                    if ways:
                        least = min(ways, key=lambda way: (length_of(layout, way), way))
                        self.assertEqual(least_way(layout, start, goal), least)
                    else:
                        self.refused(NoWay, {"start": start, "goal": goal}, least_way, layout, start, goal)

    def test_the_shorter_way_wins_over_the_lesser_list(self):
        layout = Layout([4, 9, 8, 5], [(0, 1), (0, 2), (1, 3), (2, 3)])
        self.assertEqual(least_way(layout, 0, 3), [0, 2, 3])
        self.assertEqual(least_way(layout, 3, 0), [3, 2, 0])

    def test_one_block(self):
        self.assertEqual(least_way(DIAMOND, 2, 2), [2])

    def test_errors_in_order(self):
        for block in no_blocks(4):
            self.refused(NoBlock, {"block": block}, least_way, DIAMOND, block, 77)
            self.refused(NoBlock, {"block": block}, least_way, DIAMOND, 0, block)
        self.refused(NoWay, {"start": 1, "goal": 2}, least_way, DIAMOND, 1, 2)
        self.refused(NoWay, {"start": 2, "goal": 1}, least_way, DIAMOND, 2, 1)


class AllWaysTest(Case):
    def test_as_all_ways_tell(self):
        for seed in range(30):
            layout = chance_layout(seed, 8, 13)
            for start in range(8):
                for goal in range(8):
                    ways = ways_between(layout, start, goal)
                    self.assertEqual(list(each_way(layout, start, goal)), ways)
                    self.assertEqual(count_ways(layout, start, goal), len(ways))

    def test_one_and_none(self):
        self.assertEqual(list(each_way(DIAMOND, 1, 1)), [[1]])
        self.assertEqual(count_ways(DIAMOND, 1, 1), 1)
        self.assertEqual(list(each_way(DIAMOND, 1, 2)), [])
        self.assertEqual(count_ways(DIAMOND, 1, 2), 0)

    def test_each_way_is_a_generator(self):
        self.assertTrue(inspect.isgenerator(each_way(DIAMOND, 0, 3)))
        self.assertEqual(list(each_way(layout=DIAMOND, start=3, goal=0)), [[3, 1, 0], [3, 2, 0]])
        self.assertEqual(count_ways(layout=DIAMOND, start=3, goal=0), 2)

    def test_a_way_may_be_changed_at_once(self):
        found = []
        for way in each_way(ladder(4), 0, 7):
            found.append(list(way))
            way.reverse()
            way.append(99)
        self.assertEqual(found, list(each_way(ladder(4), 0, 7)))
        self.assertEqual(len(found), 4)

    def test_no_block(self):
        for block in no_blocks(4):
            self.refused(NoBlock, {"block": block}, count_ways, DIAMOND, block, 77)
            self.refused(NoBlock, {"block": block}, count_ways, DIAMOND, 0, block)
            each_way(DIAMOND, block, 77)
            each_way(DIAMOND, 0, block)
            self.refused(NoBlock, {"block": block}, lambda: next(each_way(DIAMOND, block, 77)))
            self.refused(NoBlock, {"block": block}, lambda: next(each_way(DIAMOND, 0, block)))


class BoundTest(Case):
    def test_very_many_ways(self):
        layout = ladder(30)
        self.assertEqual(self.quick(count_ways, layout, 0, 58), 2 ** 28)
        self.assertEqual(self.quick(count_ways, layout, 59, 1), 2 ** 28)
        self.assertEqual(self.quick(distances, layout, 0)[58:], [30, 30])
        self.assertEqual(self.quick(least_way, layout, 0, 59), [*range(0, 58, 2), 59])
        full = everything(60)
        self.assertEqual(self.quick(count_ways, full, 0, 59), 2 ** 58)
        self.assertEqual(self.quick(least_way, full, 59, 0), [59, 0])

    def test_the_first_of_very_many_ways(self):
        first = self.quick(lambda: list(islice(each_way(everything(60), 0, 59), 3)))
        self.assertEqual(first, [list(range(60)), [*range(58), 59], [*range(57), 58, 59]])

    def test_dead_ends_cost_nothing(self):
        # From block 0 very many ways lead into the ladder, and only one to the goal.
        joints = [(west + 1, east + 1) for west, east in ladder(29).joints()]
        layout = Layout([1] * 60, joints + [(0, 1), (0, 59)])
        self.assertEqual(self.quick(lambda: list(each_way(layout, 0, 59))), [[0, 59]])
        self.refused(NoWay, {"start": 1, "goal": 59}, least_way, layout, 1, 59)

    def test_long_lists(self):
        self.refused(BadWay, {"at": 1}, heading, DIAMOND, [0, 1] * 500)


if __name__ == "__main__":
    unittest.main()
