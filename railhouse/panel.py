"""The panel: trains that hold blocks and lock points, and the deeds that change this."""

from railhouse.errors import BadWay, BlockTaken, NothingAhead, NothingBehind, NothingToCancel, NothingToUndo
from railhouse.errors import NoTrain, PointLocked, TrainBusy, TrainKnown
from railhouse.holding import Holding
from railhouse.layout import check_block, check_blocks
from railhouse.routes import pair_demands
from railhouse.ways import first_break


class Panel:
    """Trains on a layout. Every deed changes what one train holds, and can be taken back."""

    def __init__(self, layout, *, flank=True):
        self._layout = layout
        self._flank = flank
        self._holdings = {}
        # Holders and locks follow from the holdings; they are kept so that no deed looks at every train.
        # A lock tells the branch of a point, and how many demands lock it there.
        self._holders = [{} for _ in range(layout.size)]
        self._locks = {}
        # Each accepted deed, with what its train held before.
        self._accepted = []

    def place(self, train, block, heading):
        """Put a new train into one block."""
        if train in self._holdings:
            raise TrainKnown(train)
        check_block(self._layout, block)
        self._check_free([block])
        self._accept(("place", train, block, heading), Holding(heading, (block,), 1, (), ()))

    def request(self, train, blocks):
        """Lock the next blocks of a train."""
        holding = self._holding_of(train)
        check_blocks(self._layout, blocks)
        if len(blocks) == 0:
            raise BadWay(0)
        at = first_break(self._layout, [holding.path[-1], *blocks], holding.facing)
        if at is not None:
            raise BadWay(at)
        self._check_free(blocks)
        locked = self._new_demands(holding, blocks)
        self._check_points([demand for demands in locked for demand in demands])
        self._accept(("request", train, tuple(blocks)), holding.extended(blocks, locked))

    def advance(self, train):
        """Move the head of a train into the first block ahead."""
        holding = self._holding_of(train)
        if len(holding.open_blocks()) == 0:
            raise NothingAhead(train)
        self._accept(("advance", train), holding.advanced())

    def release(self, train):
        """Move the tail of a train out of its rearmost block."""
        holding = self._holding_of(train)
        if holding.filled == 1:
            raise NothingBehind(train)
        self._accept(("release", train), holding.released())

    def cancel(self, train):
        """Give back the blocks of the last request of a train."""
        holding = self._holding_of(train)
        if len(holding.asked) == 0:
            raise NothingToCancel(train)
        self._accept(("cancel", train), holding.cancelled())

    def withdraw(self, train):
        """Take a train off the panel."""
        holding = self._holding_of(train)
        if len(holding.path) > 1:
            raise TrainBusy(train)
        self._accept(("withdraw", train), None)

    def undo(self):
        """Take back the last deed and return it."""
        if len(self._accepted) == 0:
            raise NothingToUndo()
        deed, before = self._accepted.pop()
        self._change(deed[1], before)
        return deed

    def journal(self):
        """Return the deeds that were accepted and not taken back, the oldest first."""
        return [deed for deed, _ in self._accepted]

    def trains(self):
        """Return the numbers of the trains, ascending."""
        return sorted(list(self._holdings))

    def heading(self, train):
        """Return the heading of the train."""
        return self._holding_of(train).facing

    def occupied(self, train):
        """Return the blocks that the train occupies, from the tail to the head."""
        return list(self._holding_of(train).filled_blocks())

    def ahead(self, train):
        """Return the blocks that are locked ahead of the train."""
        return list(self._holding_of(train).open_blocks())

    def requests(self, train):
        """Return the number of blocks of each request of which no block is entered, the oldest first."""
        return list(self._holding_of(train).asked)

    def holders(self, block):
        """Return the trains that hold the block, ascending."""
        check_block(self._layout, block)
        return sorted(list(self._holders[block]))

    def locks(self):
        """Return all locked demands, ascending."""
        return sorted([(block, side, branch) for (block, side), (branch, _) in self._locks.items()])

    def state(self):
        """Return what each train holds, and the locked demands."""
        rows = []
        for train in self.trains():
            holding = self._holdings[train]
            rows.append((train, holding.facing, holding.filled_blocks(), holding.open_blocks(), holding.asked))
        return rows, self.locks()

    def _holding_of(self, train):
        if train not in self._holdings:
            raise NoTrain(train)
        return self._holdings[train]

    def _check_free(self, blocks):
        for block in blocks:
            if self._holders[block] and not self._layout.is_yard(block):
                raise BlockTaken(block, list(self._holders[block])[0])

    def _new_demands(self, holding, blocks):
        """Return a list of demands for each pair of neighbours that the request adds."""
        on_way = [*holding.path, *blocks]
        last = holding.path[-1]
        found = []
        for before, after in zip([last, *blocks], blocks):
            found.append(pair_demands(self._layout, before, after, on_way, self._flank))
        return found

    def _check_points(self, demands):
        for block, side, branch in sorted(demands):
            locked, _ = self._locks.get((block, side), (branch, 0))
            if locked != branch:
                raise PointLocked(block, side)

    def _accept(self, deed, after):
        train = deed[1]
        self._accepted.append((deed, self._holdings.get(train)))
        self._change(train, after)

    def _change(self, train, after):
        """Give the train another holding, or none; holders and locks follow."""
        before = self._holdings.pop(train, None)
        if before is not None:
            self._forget(train, before)
        if after is not None:
            self._holdings[train] = after
            self._keep(train, after)

    def _forget(self, train, holding):
        for block in holding.path:
            del self._holders[block][train]
        for block, side, branch in holding.demands():
            _, many = self._locks.pop((block, side))
            if many > 1:
                self._locks[(block, side)] = (branch, many - 1)

    def _keep(self, train, holding):
        for block in holding.path:
            self._holders[block][train] = True
        for block, side, branch in holding.demands():
            _, many = self._locks.get((block, side), (branch, 0))
            self._locks[(block, side)] = (branch, many + 1)
