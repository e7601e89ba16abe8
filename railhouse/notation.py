"""The written forms of layouts and plans."""

from railhouse.errors import BadOrder
from railhouse.layout import Layout
from railhouse.plans import Plan
from railhouse.texts import Reader, line_of
from railhouse.trains import Train


def format_layout(layout):
    """Return the written form of the layout."""
    lines = [line_of(["layout", layout.size])]
    for block in range(layout.size):
        lines.append(line_of(["yard" if layout.is_yard(block) else "plain", layout.length_of(block)]))
    for west, east in layout.joints():
        lines.append(line_of(["joint", west, east]))
    return "".join(lines)


def format_plan(plan):
    """Return the written form of the plan, its layout included."""
    lines = [line_of(["plan", plan.size])]
    for train in range(plan.size):
        runner = plan.train_of(train)
        way = runner.blocks()
        lines.append(line_of(["train", runner.length, *way]))
    for block in range(plan.layout.size):
        order = plan.order(block)
        if order:
            lines.append(line_of(["order", block, *order]))
    for first, second in plan.turns():
        lines.append(line_of(["turn", first, second]))
    return format_layout(plan.layout) + "".join(lines)


def parse_layout(text):
    """Return the layout with this written form."""
    reader = Reader(text)
    blocks, joints = _read_layout(reader)
    reader.finish()
    return _layout_of(blocks, joints)


def parse_plan(text):
    """Return the plan with this written form."""
    reader = Reader(text)
    blocks, joints = _read_layout(reader)
    runners = _read_counted(reader, "plan T", ["train LENGTH BLOCK .."])
    orders = reader.read_ascending("order BLOCK TRAIN ..", 1)
    turns = reader.read_ascending("turn FIRST SECOND", 2)
    reader.finish()
    layout = _layout_of(blocks, joints)
    trains = [Train(way, length=length) for _, length, *way in runners]
    return _plan_of(layout, trains, orders, [(first, second) for _, first, second in turns])


def _read_layout(reader):
    """Read the lines of a layout; return those of the blocks and those of the joints."""
    blocks = _read_counted(reader, "layout N", ["plain LENGTH", "yard LENGTH"])
    return blocks, reader.read_ascending("joint WEST EAST", 2)


def _read_counted(reader, head, forms):
    """Read a line that tells a number, and as many lines of the forms; return those."""
    _, many = reader.read([head])
    return [reader.read(forms) for _ in range(many)]


def _layout_of(blocks, joints):
    lengths = [length for _, length in blocks]
    yards = [block for block in range(len(blocks)) if blocks[block][0] == "yard"]
    return Layout(lengths, [(west, east) for _, west, east in joints], yards=yards)


def _plan_of(layout, trains, rows, turns):
    orders = [[] for _ in range(layout.size)]
    strange = []
    for _, block, *order in rows:
        if block in layout:
            orders[block] = order
        else:
            strange.append(block)
    if strange:
        # A wrong train and a wrong order of a block are found before an order of no block, turns after it.
        Plan(layout, trains, orders)
        raise BadOrder(strange[0])
    return Plan(layout, trains, orders, turns=turns)
