"""[53] and [55]: single lines, their trains, and where two trains can meet."""

import unittest

from railhouse.errors import BadLength, BadLine
from railhouse.layout import Layout
from railhouse.line import Line
from tests.support import GREAT, Case


def trains_of(line):
    return [(train.blocks(), train.length) for train in line.trains()]


class LineTest(Case):
    def test_layout_and_trains(self):
        line = Line([200, 50, 210], [100, 110], [70, 80], [60])
        self.assertEqual((line.sections, line.eastbound, line.westbound), (2, 2, 1))
        self.assertEqual(line.layout, Layout([200, 100, 50, 110, 210], [(0, 1), (1, 2), (2, 3), (3, 4)], yards=[0, 2, 4]))
        self.assertEqual(trains_of(line), [([0, 1, 2, 3, 4], 70), ([0, 1, 2, 3, 4], 80), ([4, 3, 2, 1, 0], 60)])

    def test_one_section_and_six(self):
        for many in range(1, 7):
            yards, sections = list(range(1, many + 2)), list(range(21, many + 21))
            line = Line(yards, sections, [5], [6])
            self.assertEqual((line.sections, line.layout.size), (many, 2 * many + 1))
            for yard in range(many + 1):
                self.assertEqual((line.layout.length_of(2 * yard), line.layout.is_yard(2 * yard)), (yard + 1, True))
            for section in range(1, many + 1):
                block = 2 * section - 1
                self.assertEqual((line.layout.length_of(block), line.layout.is_yard(block)), (20 + section, False))
            self.assertEqual(line.layout.joints(), [(block, block + 1) for block in range(2 * many)])
            self.assertEqual([train.blocks() for train in line.trains()],
                             [list(range(2 * many + 1)), list(range(2 * many, -1, -1))])

    def test_without_trains(self):
        self.assertEqual(trains_of(Line([1, 1], [1], [], [])), [])
        east = Line([1, 1], [1], [3, 4, 5, 6], [])
        self.assertEqual((east.eastbound, east.westbound), (4, 0))
        self.assertEqual(trains_of(east), [([0, 1, 2], length) for length in (3, 4, 5, 6)])
        west = Line([1, 1], [1], [], [3, 4, 5, 6])
        self.assertEqual((west.eastbound, west.westbound), (0, 4))
        self.assertEqual(trains_of(west), [([2, 1, 0], length) for length in (3, 4, 5, 6)])

    def test_bad_line(self):
        for yards, sections, east, west in (
            ([1], [], [], []), ([], [], [], []), ([1] * 8, [1] * 7, [], []), ([1] * 1000, [1] * 999, [], []),
            ([1], [1], [], []), ([1] * 3, [1], [], []), ([1] * 2, [1] * 2, [], []), ([], [1], [], []),
            ([1] * 7, [1] * 7, [], []), ([1, 1], [1], [1] * 5, []), ([1, 1], [1], [], [1] * 5),
            ([1, 1], [1], [1] * 4, [1] * 5), ([1, 1], [1], [1] * 1000, [1] * 4), ([1] * 6, [1] * 6, [], []),
        ):
            self.refused(BadLine, {}, Line, yards, sections, east, west)

    def test_bad_line_stands_before_bad_length(self):
        self.refused(BadLine, {}, Line, [0, 0], [0, 0], [0], [0])
        self.refused(BadLine, {}, Line, [0, 0], [0], [0] * 5, [])
        self.refused(BadLine, {}, Line, [0, 0], [0], [], [0] * 5)

    def test_bad_length(self):
        for bad in (0, -1, -GREAT):
            rest = ([-9], [-9], [-9])
            self.refused(BadLength, {"length": bad}, Line, [1, bad], *rest)
            self.refused(BadLength, {"length": bad}, Line, [bad, -7], *rest)
            self.refused(BadLength, {"length": bad}, Line, [1, 1, 1], [1, bad], *rest[1:])
            self.refused(BadLength, {"length": bad}, Line, [1, 1], [1], [1, 2, bad, -7], rest[2])
            self.refused(BadLength, {"length": bad}, Line, [1, 1], [1], [], [1, bad, -7])
            self.refused(BadLength, {"length": bad}, Line, [1, 1], [1], [1], [1, 2, 3, bad])

    def test_great_lengths(self):
        line = Line([10 ** 12] * 7, [10 ** 12] * 6, [10 ** 12] * 4, [10 ** 12] * 4)
        self.assertEqual(len(line.trains()), 8)
        self.assertTrue(line.can_meet(3, 3, 3))


class MeetTest(Case):
    def setUp(self):
        self.line = Line([1, 50, 70, 69, 1], [9] * 4, [70, 51], [60, 50, 80])

    def test_at_the_ends(self):
        for east in range(2):
            for west in range(3):
                self.assertIs(self.line.can_meet(east, west, 0), True)
                self.assertIs(self.line.can_meet(east, west, 4), True)

    def test_one_of_the_two_has_to_fit(self):
        found = [[[self.line.can_meet(east, west, yard) for yard in (1, 2, 3)] for west in range(3)] for east in range(2)]
        self.assertEqual(found, [
            [[False, True, True], [True, True, True], [False, True, False]],
            [[False, True, True], [True, True, True], [False, True, True]],
        ])

    def test_one_section(self):
        line = Line([1, 1], [9], [70], [60])
        self.assertEqual([line.can_meet(0, 0, yard) for yard in (0, 1)], [True, True])

    def test_by_name(self):
        self.assertIs(self.line.can_meet(east=0, west=2, yard=2), True)
        self.assertIs(self.line.can_meet(east=0, west=2, yard=3), False)


class CopyTest(Case):
    def test_arguments_are_copied_and_not_modified(self):
        yards, sections, east, west = [1, 50, 1], [9, 9], [70], [60, 50]
        line = Line(yards=yards, sections=sections, east=east, west=west)
        self.assertEqual((yards, sections, east, west), ([1, 50, 1], [9, 9], [70], [60, 50]))
        yards[1] = 99
        east[0] = 1
        for argument in (yards, sections, east, west):
            argument.clear()
        self.assertEqual(trains_of(line), [([0, 1, 2, 3, 4], 70), ([4, 3, 2, 1, 0], 60), ([4, 3, 2, 1, 0], 50)])
        self.assertEqual((line.can_meet(0, 0, 1), line.can_meet(0, 1, 1), line.sections), (False, True, 2))

    def test_results_are_new(self):
        line = Line([1, 1], [1], [5], [6])
        trains = line.trains()
        trains[0].blocks().clear()
        trains.clear()
        self.assertEqual(trains_of(line), [([0, 1, 2], 5), ([2, 1, 0], 6)])


if __name__ == "__main__":
    unittest.main()
