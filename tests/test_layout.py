"""[6] to [9]: blocks, joints, points, yards, the errors of the constructor and of the methods."""

import unittest

from railhouse.errors import BadJoint, BadLength, CrowdedEnd, NoBlock
from railhouse.layout import Layout
from tests.support import GREAT, Case, chance_layout, everything, no_blocks


class LayoutTest(Case):
    def setUp(self):
        self.layout = Layout([40, 30, 31, 50, 7], [(2, 3), (0, 2), (0, 1), (1, 3), (3, 4)], yards=[4])

    def test_blocks(self):
        self.assertEqual(self.layout.size, 5)
        self.assertEqual([self.layout.length_of(block) for block in range(5)], [40, 30, 31, 50, 7])
        self.assertEqual([self.layout.is_yard(block) for block in range(5)], [False, False, False, False, True])

    def test_ends(self):
        self.assertEqual([self.layout.east_of(block) for block in range(5)], [[1, 2], [3], [3], [4], []])
        self.assertEqual([self.layout.west_of(block) for block in range(5)], [[], [0], [0], [1, 2], [3]])
        for block in range(5):
            self.assertEqual(self.layout.branches(block, "east"), self.layout.east_of(block))
            self.assertEqual(self.layout.branches(block, "west"), self.layout.west_of(block))

    def test_joints(self):
        self.assertEqual(self.layout.joints(), [(0, 1), (0, 2), (1, 3), (2, 3), (3, 4)])
        for west in range(5):
            for east in range(5):
                self.assertIs(self.layout.joined(west, east), (west, east) in self.layout.joints())

    def test_points(self):
        self.assertEqual(self.layout.points(), [(0, "east"), (3, "west")])
        both = Layout([1] * 5, [(0, 2), (1, 2), (2, 3), (2, 4)])
        self.assertEqual(both.points(), [(2, "east"), (2, "west")])
        yard = Layout([1] * 5, [(0, 2), (1, 2), (2, 3), (2, 4)], yards=(2,))
        self.assertEqual(yard.points(), [])

    def test_no_blocks(self):
        layout = Layout([], [])
        self.assertEqual((layout.size, layout.joints(), layout.points()), (0, [], []))
        self.assertFalse(0 in layout)
        self.refused(NoBlock, {"block": 0}, layout.length_of, 0)

    def test_a_yard_may_have_any_number_of_joints(self):
        layout = everything(60)
        self.assertEqual(layout.east_of(0), list(range(1, 60)))
        self.assertEqual(layout.west_of(59), list(range(59)))
        self.assertEqual(layout.points(), [])

    def test_a_yard_that_is_listed_twice(self):
        self.assertEqual(Layout([1, 2], [], yards=[1, 1]), Layout([1, 2], [], yards=(1,)))

    def test_great_lengths(self):
        self.assertEqual(Layout([GREAT], []).length_of(0), GREAT)

    def test_arguments_by_name(self):
        layout = Layout(lengths=[1, 2], joints=[(0, 1)], yards=[0])
        self.assertEqual(layout.joined(west=0, east=1), True)
        self.assertEqual(layout.branches(block=0, side="east"), [1])
        self.assertEqual([layout.length_of(block=1), layout.is_yard(block=0)], [2, True])
        self.assertEqual([layout.east_of(block=0), layout.west_of(block=1)], [[1], [0]])
        with self.assertRaises(TypeError):
            Layout([1], [], [0])


class EqualityTest(Case):
    def test_the_order_of_joints_does_not_matter(self):
        joints = [(0, 1), (0, 2), (1, 3), (2, 3)]
        self.assertTrue(Layout([1] * 4, joints) == Layout([1] * 4, joints[::-1]))
        self.assertFalse(Layout([1] * 4, joints) != Layout([1] * 4, joints[::-1]))

    def test_what_differs(self):
        base = Layout([1, 2, 3], [(0, 1), (1, 2)], yards=[1])
        self.assertFalse(base == Layout([1, 2, 4], [(0, 1), (1, 2)], yards=[1]))
        self.assertFalse(base == Layout([1, 2, 3], [(0, 1)], yards=[1]))
        self.assertFalse(base == Layout([1, 2, 3], [(0, 1), (0, 2)], yards=[1]))
        self.assertFalse(base == Layout([1, 2, 3], [(0, 1), (1, 2)]))
        self.assertFalse(base == Layout([1, 2, 3, 1], [(0, 1), (1, 2)], yards=[1]))
        self.assertTrue(base != Layout([1, 2, 3], [(0, 1), (1, 2)]))

    def test_other_kinds_of_values(self):
        for other in (None, 0, "layout", [1], (1,), {}):
            self.assertFalse(Layout([1], []) == other)
            self.assertTrue(Layout([1], []) != other)

    def test_contains(self):
        layout = Layout([1, 1, 1], [])
        self.assertEqual([block in layout for block in (-1, 0, 2, 3)], [False, True, True, False])
        for block in no_blocks(3):
            self.assertFalse(block in layout)


class ConstructorErrorTest(Case):
    def test_bad_length(self):
        self.refused(BadLength, {"length": 0}, Layout, [3, 0, -1], [])
        self.refused(BadLength, {"length": -GREAT}, Layout, [3, -GREAT, 0], [])
        self.refused(BadLength, {"length": 0}, Layout, [0], [(5, 5)], yards=[9])

    def test_no_yard(self):
        for block in no_blocks(2):
            self.refused(NoBlock, {"block": block}, Layout, [3, 3], [(0, 0)], yards=[1, block, 77])

    def test_no_block_in_a_joint(self):
        for block in no_blocks(2):
            self.refused(NoBlock, {"block": block}, Layout, [3, 3], [(0, 1), (block, 99), (0, 0)])
            self.refused(NoBlock, {"block": block}, Layout, [3, 3], [(0, 1), (1, block), (0, 0)])

    def test_bad_joint(self):
        self.refused(BadJoint, {"west": 1, "east": 0}, Layout, [3, 3], [(1, 0)])
        self.refused(BadJoint, {"west": 1, "east": 1}, Layout, [3, 3], [(1, 1)])
        self.refused(BadJoint, {"west": 0, "east": 1}, Layout, [3, 3], [(0, 1), (0, 1)])

    def test_crowded_ends(self):
        fan = [(0, 1), (0, 2), (0, 3)]
        self.refused(CrowdedEnd, {"block": 0, "side": "east"}, Layout, [5] * 4, fan)
        self.refused(CrowdedEnd, {"block": 3, "side": "west"}, Layout, [5] * 4, [(0, 3), (1, 3), (2, 3)])
        self.assertEqual(Layout([5] * 4, fan, yards=[0]).east_of(0), [1, 2, 3])

    def test_a_joint_twice_is_bad_before_its_end_is_crowded(self):
        self.refused(BadJoint, {"west": 0, "east": 1}, Layout, [5] * 3, [(0, 1), (0, 2), (0, 1)])

    def test_the_east_end_is_looked_at_first(self):
        joints = [(0, 3), (0, 4), (1, 5), (2, 5), (0, 5)]
        self.refused(CrowdedEnd, {"block": 0, "side": "east"}, Layout, [5] * 6, joints)
        self.refused(CrowdedEnd, {"block": 5, "side": "west"}, Layout, [5] * 6, joints, yards=[0])

    def test_joint_by_joint(self):
        self.refused(BadJoint, {"west": 1, "east": 0}, Layout, [5] * 2, [(1, 0), (7, 8)])
        self.refused(NoBlock, {"block": 7}, Layout, [5] * 2, [(7, 8), (1, 0)])
        self.refused(CrowdedEnd, {"block": 0, "side": "east"}, Layout, [5] * 4, [(0, 1), (0, 2), (0, 3), (9, 9)])


class MethodErrorTest(Case):
    def test_no_block(self):
        layout = Layout([1, 2, 3], [(0, 1)], yards=[2])
        for block in no_blocks(3):
            for method in (layout.length_of, layout.is_yard, layout.east_of, layout.west_of):
                self.refused(NoBlock, {"block": block}, method, block)
            for side in ("east", "west"):
                self.refused(NoBlock, {"block": block}, layout.branches, block, side)
            self.refused(NoBlock, {"block": block}, layout.joined, block, 77)
            self.refused(NoBlock, {"block": block}, layout.joined, 0, block)


class CopyTest(Case):
    def test_arguments_are_copied_and_not_modified(self):
        lengths, joints, yards = [4, 5, 6], [(1, 2), (0, 1)], [2, 0]
        layout = Layout(lengths, joints, yards=yards)
        self.assertEqual((lengths, joints, yards), ([4, 5, 6], [(1, 2), (0, 1)], [2, 0]))
        lengths[0] = 9
        lengths.append(1)
        joints.pop()
        yards.append(1)
        self.assertEqual(layout, Layout([4, 5, 6], [(0, 1), (1, 2)], yards=[0, 2]))
        self.assertEqual(layout.size, 3)

    def test_results_are_new(self):
        layout = chance_layout(1, 8, 10)
        for call in (layout.joints, layout.points):
            before = list(call())
            call().append((0, 0))
            call().clear()
            self.assertEqual(call(), before)
        for block in range(8):
            for call in (layout.east_of, layout.west_of):
                before = list(call(block))
                call(block).append(5)
                self.assertEqual(call(block), before)
            for side in ("east", "west"):
                before = list(layout.branches(block, side))
                layout.branches(block, side).append(5)
                self.assertEqual(layout.branches(block, side), before)


if __name__ == "__main__":
    unittest.main()
