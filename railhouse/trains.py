"""Trains: a way, a length, and the events that follow from them."""

from railhouse.errors import BadLength, BadWay
from railhouse.ways import heading


class Train:
    """A train that runs over a way once."""

    def __init__(self, way, *, length=1):
        if len(way) == 0:
            raise BadWay(0)
        if length < 1:
            raise BadLength(length)
        self._way = list(way)
        self._step_at = {}
        for step in range(len(way)):
            self._step_at.setdefault(way[step], step)
        self.length = length
        self.steps = len(way)
        self.last = 2 * len(way)

    def blocks(self):
        """Return the way."""
        return list(self._way)

    def step_of(self, block):
        """Return the least step whose block it is, or -1."""
        return self._step_at.get(block, -1)


def releases(layout, train):
    """Return the number of the event that releases the block of each step."""
    way = train.blocks()
    heading(layout, way)
    return [_release(layout, train, way, step) for step in range(train.steps)]


def _release(layout, train, way, step):
    """Return the arrival at which the blocks behind the step are as long as the train, or the last event."""
    room = 0
    for later in range(step + 1, train.steps):
        room += layout.length_of(way[later])
        if room >= train.length:
            return 2 * later + 1
    return train.last
