"""[27] to [29]: trains, their events and releases."""

import unittest

from railhouse.errors import BadLength, BadWay, NoBlock
from railhouse.layout import Layout
from railhouse.trains import Train, releases
from tests.support import GREAT, Case, chance_layout, chance_ways, no_blocks

CHAIN = Layout([200, 100, 50, 100, 200], [(0, 1), (1, 2), (2, 3), (3, 4)], yards=[0, 2, 4])


class TrainTest(Case):
    def test_attributes(self):
        train = Train([4, 3, 2], length=70)
        self.assertEqual((train.length, train.steps, train.last), (70, 3, 6))
        self.assertEqual(train.blocks(), [4, 3, 2])
        train = Train([9])
        self.assertEqual((train.length, train.steps, train.last), (1, 1, 2))

    def test_step_of(self):
        train = Train([4, 3, 2, 3, GREAT])
        self.assertEqual([train.step_of(block) for block in (4, 3, 2, GREAT)], [0, 1, 2, 4])
        self.assertEqual([train.step_of(block) for block in (0, 5, -1, -GREAT)], [-1] * 4)

    def test_the_way_is_not_compared_with_a_layout(self):
        self.assertEqual(Train([-3, 10 ** 12]).blocks(), [-3, 10 ** 12])

    def test_by_name(self):
        train = Train(way=[1, 2], length=5)
        self.assertEqual((train.step_of(block=2), train.length), (1, 5))
        with self.assertRaises(TypeError):
            Train([1, 2], 5)

    def test_errors_in_order(self):
        self.refused(BadWay, {"at": 0}, Train, [])
        self.refused(BadWay, {"at": 0}, Train, [], length=0)
        for length in (0, -1, -GREAT):
            self.refused(BadLength, {"length": length}, Train, [1], length=length)

    def test_copies(self):
        way = [1, 2]
        train = Train(way)
        way.append(3)
        way[0] = 7
        train.blocks().append(9)
        self.assertEqual((train.blocks(), train.steps, train.step_of(1)), ([1, 2], 2, 0))


class ReleaseTest(Case):
    def plain_releases(self, layout, train):
        """Return what [29] says, word by word."""
        way = train.blocks()
        found = []
        for k in range(len(way)):
            good = [j for j in range(k + 1, len(way)) if sum(map(layout.length_of, way[k + 1:j + 1])) >= train.length]
            found.append(2 * min(good) + 1 if good else 2 * len(way))
        return found

    def test_example(self):
        way = [0, 1, 2, 3, 4]
        self.assertEqual(releases(CHAIN, Train(way, length=40)), [3, 5, 7, 9, 10])
        self.assertEqual(releases(CHAIN, Train(way, length=70)), [3, 7, 7, 9, 10])

    def test_exact_lengths(self):
        way = [0, 1, 2, 3, 4]
        self.assertEqual(releases(CHAIN, Train(way, length=50)), [3, 5, 7, 9, 10])
        self.assertEqual(releases(CHAIN, Train(way, length=150)), [5, 7, 9, 9, 10])
        self.assertEqual(releases(CHAIN, Train(way, length=151)), [7, 9, 9, 9, 10])

    def test_longer_than_the_rest_of_the_way(self):
        way = [0, 1, 2, 3, 4]
        self.assertEqual(releases(CHAIN, Train(way, length=201)), [7, 9, 9, 10, 10])
        self.assertEqual(releases(CHAIN, Train(way, length=450)), [9, 10, 10, 10, 10])
        self.assertEqual(releases(CHAIN, Train(way, length=451)), [10] * 5)
        self.assertEqual(releases(CHAIN, Train(way, length=GREAT)), [10] * 5)

    def test_westward_and_one_block(self):
        self.assertEqual(releases(CHAIN, Train([4, 3, 2, 1, 0], length=60)), [3, 7, 7, 9, 10])
        self.assertEqual(releases(CHAIN, Train([2], length=60)), [2])

    def test_by_chance(self):
        for seed in range(40):
            layout = chance_layout(seed, 9, 12)
            for at, way in enumerate(chance_ways(layout, seed, 30)):
                train = Train(way, length=1 + 3 * at % 20)
                self.assertEqual(releases(layout=layout, train=train), self.plain_releases(layout, train))

    def test_errors(self):
        self.refused(BadWay, {"at": 1}, releases, CHAIN, Train([0, 1, 3]))
        self.refused(BadWay, {"at": 0}, releases, CHAIN, Train([0, 2]))
        for block in no_blocks(5):
            self.refused(NoBlock, {"block": block}, releases, CHAIN, Train([0, 2, block, 99]))

    def test_results_are_new(self):
        train = Train([0, 1])
        releases(CHAIN, train).clear()
        self.assertEqual(releases(CHAIN, train), [3, 4])

    def test_bounds(self):
        layout = Layout([10 ** 12] * 60, [(at, at + 1) for at in range(59)])
        self.assertEqual(self.quick(releases, layout, Train(list(range(60)), length=6 * 10 ** 13)), [120] * 60)
        self.refused(BadWay, {"at": 1}, releases, layout, Train([0, 1] * 500))


if __name__ == "__main__":
    unittest.main()
