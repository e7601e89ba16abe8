"""What one train holds on a panel. A holding never changes; each deed makes a new one."""


class Holding:
    """The held blocks of a train with their demands, and its requests of which no block is entered."""

    def __init__(self, facing, path, filled, asked, locked):
        self.facing = facing
        # All held blocks in the order of travel, of which the first `filled` are occupied.
        self.path = path
        self.filled = filled
        # The number of blocks of each request of which no block is entered.
        self.asked = asked
        # The demands of each two neighbours of the path.
        self.locked = locked

    def filled_blocks(self):
        """Return the occupied blocks."""
        return self.path[:self.filled]

    def open_blocks(self):
        """Return the blocks that are ahead."""
        return self.path[self.filled:]

    def demands(self):
        """Return the demands of all neighbours, with repetitions."""
        return [demand for demands in self.locked for demand in demands]

    def extended(self, blocks, locked):
        """Return the holding with one more request."""
        asked = self.asked + (len(blocks),)
        return Holding(self.facing, self.path + tuple(blocks), self.filled, asked, self.locked + tuple(locked))

    def advanced(self):
        """Return the holding with the head in the next block."""
        # The open requests are the last blocks: if nothing else is ahead, the head enters the first of them.
        enters_request = sum(self.asked) == len(self.open_blocks())
        asked = self.asked[1:] if enters_request else self.asked
        return Holding(self.facing, self.path, self.filled + 1, asked, self.locked)

    def released(self):
        """Return the holding without its rearmost block."""
        return Holding(self.facing, self.path[1:], self.filled - 1, self.asked, self.locked[1:])

    def cancelled(self):
        """Return the holding without its last open request."""
        many = self.asked[-1]
        return Holding(self.facing, self.path[:-many], self.filled, self.asked[:-1], self.locked[:-many])
