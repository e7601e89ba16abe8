"""Single lines: yards and sections between them, over which trains run in both directions."""

from railhouse.errors import BadLength, BadLine
from railhouse.layout import Layout
from railhouse.trains import Train

SECTION_LIMIT = 6
TRAIN_LIMIT = 4


class Line:
    """A chain of yards with one section between each two, and the trains that run over all of it."""

    def __init__(self, yards, sections, east, west):
        _check_line(yards, sections, east, west)
        self.sections = len(sections)
        self.eastbound = len(east)
        self.westbound = len(west)
        self._rooms = list(yards)
        self._east = list(east)
        self._west = list(west)
        lengths = [yards[0]]
        for section, yard in zip(sections, yards[1:]):
            lengths = lengths + [section, yard]
        joints = [(block, block + 1) for block in range(len(lengths) - 1)]
        self.layout = Layout(lengths, joints, yards=list(range(0, len(lengths), 2)))

    def trains(self):
        """Return all trains, the eastbound ones first."""
        blocks = list(range(self.layout.size))
        eastward = [Train(blocks, length=length) for length in self._east]
        return eastward + [Train(blocks[::-1], length=length) for length in self._west]

    def can_meet(self, east, west, yard):
        """Tell whether an eastbound and a westbound train can meet in the yard."""
        if yard in (0, self.sections):
            return True
        return min(self._east[east], self._west[west]) <= self._rooms[yard]


def _check_line(yards, sections, east, west):
    if not 1 <= len(sections) <= SECTION_LIMIT or len(yards) != len(sections) + 1:
        raise BadLine()
    if max(len(east), len(west)) > TRAIN_LIMIT:
        raise BadLine()
    for length in [*yards, *sections, *east, *west]:
        if length < 1:
            raise BadLength(length)
