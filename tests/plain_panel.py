"""A slow panel that does what [21] to [25] say, word by word; the tests compare the real one with it."""

from tests.test_routes import plain_flank_demands, plain_joint_demands


class Refused(Exception):
    """A deed that the document refuses: the name of its error and the values of its attributes."""

    def __init__(self, name, *values):
        Exception.__init__(self, name, *values)
        self.told = (name, values)


class PlainPanel:
    def __init__(self, layout, flank):
        self.layout = layout
        self.flank = flank
        self.trains = {}

    def holder_of(self, block):
        for number, train in self.trains.items():
            if block in train["held"]:
                return number
        return None

    def lock_table(self):
        return sorted({demand for train in self.trains.values() for lock in train["locks"] for demand in lock[2]})

    def known(self, number):
        if number not in self.trains:
            raise Refused("NoTrain", number)
        return self.trains[number]

    def check_block(self, block):
        if not 0 <= block < self.layout.size:
            raise Refused("NoBlock", block)

    def check_free(self, block):
        if not self.layout.is_yard(block) and self.holder_of(block) is not None:
            raise Refused("BlockTaken", block, self.holder_of(block))

    def place(self, number, block, heading):
        if number in self.trains:
            raise Refused("TrainKnown", number)
        self.check_block(block)
        self.check_free(block)
        self.trains[number] = {"heading": heading, "held": [block], "head": 0, "requests": [], "locks": []}

    def request(self, number, blocks):
        train = self.known(number)
        for block in blocks:
            self.check_block(block)
        if not blocks:
            raise Refused("BadWay", 0)
        line = [train["held"][-1], *blocks]
        for at, (u, v) in enumerate(zip(line, line[1:])):
            joint = (u, v) if train["heading"] == "east" else (v, u)
            if joint not in self.layout.joints():
                raise Refused("BadWay", at)
        for block in blocks:
            self.check_free(block)
        on_way = train["held"] + list(blocks)
        locks = []
        for u, v in zip(line, line[1:]):
            demands = plain_joint_demands(self.layout, u, v)
            if self.flank:
                demands = demands + plain_flank_demands(self.layout, u, v, on_way)
            locks.append((u, v, demands))
        wrong = [
            (block, side) for lock in locks for block, side, branch in lock[2]
            for other in self.lock_table() if other[:2] == (block, side) and other[2] != branch
        ]
        if wrong:
            raise Refused("PointLocked", *min(wrong))
        train["held"] = on_way
        train["locks"] += locks
        train["requests"].append(list(blocks))

    def entered(self, train, request):
        return request[0] in train["held"][:train["head"] + 1] or request[0] not in train["held"]

    def advance(self, number):
        train = self.known(number)
        if train["head"] + 1 == len(train["held"]):
            raise Refused("NothingAhead", number)
        train["head"] += 1

    def release(self, number):
        train = self.known(number)
        if train["head"] == 0:
            raise Refused("NothingBehind", number)
        tail = train["held"].pop(0)
        train["head"] -= 1
        train["locks"] = [lock for lock in train["locks"] if lock[0] != tail]

    def cancel(self, number):
        train = self.known(number)
        if not train["requests"] or self.entered(train, train["requests"][-1]):
            raise Refused("NothingToCancel", number)
        blocks = train["requests"].pop()
        train["held"] = [block for block in train["held"] if block not in blocks]
        train["locks"] = [lock for lock in train["locks"] if lock[1] not in blocks]

    def withdraw(self, number):
        train = self.known(number)
        if len(train["held"]) > 1:
            raise Refused("TrainBusy", number)
        del self.trains[number]

    def state(self):
        rows = []
        for number in sorted(self.trains):
            train = self.trains[number]
            asked = tuple(len(request) for request in train["requests"] if not self.entered(train, request))
            head = train["head"] + 1
            rows.append((number, train["heading"], tuple(train["held"][:head]), tuple(train["held"][head:]), asked))
        return rows, self.lock_table()
