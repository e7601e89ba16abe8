"""The errors of the program, each with the attributes that its constructor takes.

An error that is created by position shows these values as its message.
"""


class RailError(ValueError):
    """The base class of all errors that the program raises."""


class BadLength(RailError):
    """A length is less than 1."""

    def __init__(self, length):
        self.length = length


class NoBlock(RailError):
    """There is no block with this number."""

    def __init__(self, block):
        self.block = block


class BadJoint(RailError):
    """A joint does not lead eastward, or is listed twice."""

    def __init__(self, west, east):
        self.west = west
        self.east = east


class CrowdedEnd(RailError):
    """An end of a plain block has more than two joints."""

    def __init__(self, block, side):
        self.block = block
        self.side = side


class BadWay(RailError):
    """A list of blocks is empty, or its entries `at` and `at + 1` are not joined as a way asks."""

    def __init__(self, at):
        self.at = at


class NoWay(RailError):
    """There is no way between two blocks."""

    def __init__(self, start, goal):
        self.start = start
        self.goal = goal


class BadRoute(RailError):
    """The list of a route is not a way of at least two blocks."""

    def __init__(self, route):
        self.route = route


class NoRoute(RailError):
    """There is no route with this number."""

    def __init__(self, route):
        self.route = route


class RoutesClash(RailError):
    """Two routes cannot be set together; the reason is their clash."""

    def __init__(self, first, second, reason):
        self.first = first
        self.second = second
        self.reason = reason


class TooMany(RailError):
    """A number is above the limit of a function."""

    def __init__(self, number, limit):
        self.number = number
        self.limit = limit


class TrainKnown(RailError):
    """The train is on the panel already."""

    def __init__(self, train):
        self.train = train


class NoTrain(RailError):
    """There is no train with this number."""

    def __init__(self, train):
        self.train = train


class BlockTaken(RailError):
    """A plain block is held by a train."""

    def __init__(self, block, holder):
        self.block = block
        self.holder = holder


class PointLocked(RailError):
    """A point is locked at another branch."""

    def __init__(self, block, side):
        self.block = block
        self.side = side


class NothingAhead(RailError):
    """No block is ahead of the train."""

    def __init__(self, train):
        self.train = train


class NothingBehind(RailError):
    """The train occupies only one block."""

    def __init__(self, train):
        self.train = train


class NothingToCancel(RailError):
    """The train has no request that can be cancelled."""

    def __init__(self, train):
        self.train = train


class TrainBusy(RailError):
    """The train occupies more than one block, or a block is ahead of it."""

    def __init__(self, train):
        self.train = train


class NothingToUndo(RailError):
    """There is nothing to take back."""


class BadTrain(RailError):
    """The way of a train is not a way of the layout."""

    def __init__(self, train):
        self.train = train


class BadOrder(RailError):
    """The order of a block is missing, wrong, or one too many."""

    def __init__(self, block):
        self.block = block


class BadTurn(RailError):
    """Two trains cannot be a turn."""

    def __init__(self, first, second):
        self.first = first
        self.second = second


class NoStep(RailError):
    """The train has no step with this number."""

    def __init__(self, train, number):
        self.train = train
        self.number = number


class NoEvent(RailError):
    """The train has no event with this number."""

    def __init__(self, train, number):
        self.train = train
        self.number = number


class NotAlive(RailError):
    """The plan is dead; the trains of the ring wait for each other."""

    def __init__(self, ring):
        self.ring = list(ring)


class NoPlace(RailError):
    """The order of the block has no neighbours at this place."""

    def __init__(self, block, at):
        self.block = block
        self.at = at


class TrainDone(RailError):
    """All events of the train have happened."""

    def __init__(self, train):
        self.train = train


class MustWait(RailError):
    """The train has to wait for another one."""

    def __init__(self, train, other, block):
        self.train = train
        self.other = other
        self.block = block


class NeverAtOnce(RailError):
    """Two stays cannot be open at once."""

    def __init__(self, first, second):
        self.first = first
        self.second = second


class BadDriving(RailError):
    """An entry of a driving cannot happen in its place."""

    def __init__(self, at):
        self.at = at


class BadSpan(RailError):
    """The low of a span is greater than its high."""

    def __init__(self, low, high):
        self.low = low
        self.high = high


class BadTimes(RailError):
    """The times of a train are missing, wrong, or one list too many."""

    def __init__(self, train):
        self.train = train


class OutOfSpan(RailError):
    """A running time of the train is not in its span."""

    def __init__(self, train, number):
        self.train = train
        self.number = number


class NoGap(RailError):
    """The first event does not directly precede the second one."""

    def __init__(self, first, second):
        self.first = first
        self.second = second


class BadLine(RailError):
    """A single line has a wrong number of sections, yards or trains."""


class BadTable(RailError):
    """An entry of a table is missing, wrong, or one too many."""

    def __init__(self, east, west):
        self.east = east
        self.west = west


class TableFault(RailError):
    """A table gives no order of the trains."""

    def __init__(self, kind, east, west):
        self.kind = kind
        self.east = east
        self.west = west


class NoTable(RailError):
    """The plan of a single line is not the plan of a table."""

    def __init__(self, east, west):
        self.east = east
        self.west = west


class NotSingle(RailError):
    """The plan is not single."""


class BadWorking(RailError):
    """A working does not end after its start."""

    def __init__(self, index):
        self.index = index


class BadText(RailError):
    """A line of a text cannot stand in its place."""

    def __init__(self, line):
        self.line = line


class RunOver(RailError):
    """The arrival of the step has happened."""

    def __init__(self, train, number):
        self.train = train
        self.number = number


class TooLate(RailError):
    """The train at this place of an order has entered the block."""

    def __init__(self, block, at):
        self.block = block
        self.at = at
