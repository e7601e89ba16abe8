"""What several tests share: a case that checks errors, layouts made by chance, and slow but plain answers."""

import random
import time
import unittest
from itertools import combinations

from railhouse.errors import RailError
from railhouse.layout import Layout

GREAT = 10 ** 3999


class Case(unittest.TestCase):
    """A test case that looks at every attribute of an error, and asks twice."""

    def refused(self, error, values, call, *args, **named):
        """Check that the call raises this error with exactly these attributes, and again when it is repeated."""
        for _ in range(2):
            with self.assertRaises(RailError) as caught:
                call(*args, **named)
            self.assertIs(type(caught.exception), error)
            self.assertEqual(vars(caught.exception), values)

    def quick(self, call, *args, seconds=5, **named):
        """Check that the call ends quickly, and return its result."""
        began = time.perf_counter()
        result = call(*args, **named)
        self.assertLess(time.perf_counter() - began, seconds)
        return result


def no_blocks(size):
    """Return numbers that are no block, no route and no train where there are `size` of them."""
    return [-1, -size, -size - 1, size, size + 1, 10 ** 12, GREAT, -GREAT]


def chance_layout(seed, size, many, yards=0.2, longest=9):
    """Return a layout with at most `many` joints that are laid by chance, always the same for a seed."""
    chance = random.Random(seed)
    lengths = [chance.randint(1, longest) for _ in range(size)]
    marked = [block for block in range(size) if chance.random() < yards]
    pairs = list(combinations(range(size), 2))
    chance.shuffle(pairs)
    joints = []
    for west, east in pairs:
        full_west = west not in marked and len([pair for pair in joints if pair[0] == west]) == 2
        full_east = east not in marked and len([pair for pair in joints if pair[1] == east]) == 2
        if len(joints) < many and not full_west and not full_east:
            joints.append((west, east))
    return Layout(lengths, joints, yards=marked)


def chance_ways(layout, seed, many, shortest=1):
    """Return ways of at least `shortest` blocks, eastward and westward, chosen by chance."""
    chance = random.Random(seed)
    ways = []
    for way in every_way(layout):
        if len(way) >= shortest:
            ways.append(way)
            if len(way) > 1:
                ways.append(way[::-1])
    chance.shuffle(ways)
    return ways[:many]


def every_way(layout):
    """Return all eastward ways of the layout, ascending."""
    found = []
    for start in range(layout.size):
        ways = [[start]]
        while ways:
            way = ways.pop()
            found.append(way)
            ways.extend([way + [east] for east in range(layout.size) if layout.joined(way[-1], east)])
    return sorted(found)


def ladder(pairs):
    """Return a layout in which each two plain blocks lead to both of the next two: 2 ** (pairs - 1) ways each."""
    joints = []
    for at in range(0, 2 * pairs - 2, 2):
        joints += [(at, at + 2), (at, at + 3), (at + 1, at + 2), (at + 1, at + 3)]
    return Layout([1] * (2 * pairs), joints)


def everything(size):
    """Return a layout of yards alone, each of which is joined to all others."""
    return Layout([1] * size, list(combinations(range(size), 2)), yards=list(range(size)))
