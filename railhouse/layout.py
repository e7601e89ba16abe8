"""The layout of the track: blocks, their lengths, yards, joints and points."""

from railhouse.errors import BadJoint, BadLength, CrowdedEnd, NoBlock


class Layout:
    """Blocks that are numbered from west to east, and the joints between their ends."""

    def __init__(self, lengths, joints, *, yards=()):
        for length in lengths:
            if length < 1:
                raise BadLength(length)
        self.size = len(lengths)
        self._lengths = list(lengths)
        check_blocks(self, yards)
        self._yard_marks = [block in yards for block in range(self.size)]
        self._east = [[] for _ in range(self.size)]
        self._west = [[] for _ in range(self.size)]
        for west, east in joints:
            self._add_joint(west, east)
        self._east = [sorted(blocks) for blocks in self._east]
        self._west = [sorted(blocks) for blocks in self._west]

    def _add_joint(self, west, east):
        check_block(self, west)
        check_block(self, east)
        if west >= east or east in self._east[west]:
            raise BadJoint(west, east)
        if not self._yard_marks[west] and len(self._east[west]) == 2:
            raise CrowdedEnd(west, "east")
        if not self._yard_marks[east] and len(self._west[east]) == 2:
            raise CrowdedEnd(east, "west")
        self._east[west].append(east)
        self._west[east].append(west)

    def __eq__(self, other):
        return (
            isinstance(other, Layout)
            and self._lengths == other._lengths
            and self._yard_marks == other._yard_marks
            and self._east == other._east
        )

    def __contains__(self, block):
        return 0 <= block < self.size

    def length_of(self, block):
        """Return the length of the block."""
        check_block(self, block)
        return self._lengths[block]

    def is_yard(self, block):
        """Tell whether the block is a yard."""
        check_block(self, block)
        return self._yard_marks[block]

    def east_of(self, block):
        """Return the blocks that are joined to the east end of the block, ascending."""
        check_block(self, block)
        return list(self._east[block])

    def west_of(self, block):
        """Return the blocks that are joined to the west end of the block, ascending."""
        check_block(self, block)
        return list(self._west[block])

    def branches(self, block, side):
        """Return the blocks that are joined to this end of the block, ascending."""
        if side == "east":
            return self.east_of(block)
        return self.west_of(block)

    def joined(self, west, east):
        """Tell whether `(west, east)` is a joint."""
        check_block(self, west)
        check_block(self, east)
        return east in self._east[west]

    def joints(self):
        """Return all joints as pairs `(west, east)`, ascending."""
        return [(west, east) for west in range(self.size) for east in self._east[west]]

    def points(self):
        """Return all points as pairs `(block, side)`, ascending."""
        blocks = range(self.size)
        return [(block, side) for block in blocks for side in ("east", "west") if is_point(self, block, side)]


def check_block(layout, block):
    """Raise NoBlock if the number is not a block."""
    if block not in layout:
        raise NoBlock(block)


def check_blocks(layout, blocks):
    """Raise NoBlock for the first entry that is not a block."""
    for block in blocks:
        check_block(layout, block)


def is_point(layout, block, side):
    """Tell whether this end of the block is a point."""
    return not layout.is_yard(block) and len(layout.branches(block, side)) == 2


def opposite(side):
    """Return the other one of "east" and "west"."""
    return "west" if side == "east" else "east"
