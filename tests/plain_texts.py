"""What [64] to [66] say of written forms, word by word: which line of a text is the first bad one."""

import re

from railhouse.errors import BadOrder
from railhouse.layout import Layout
from railhouse.plans import Plan
from railhouse.trains import Train

NUMBER = "(0|[1-9][0-9]{0,12})"
DEEDS = ["place N N (east|west)", "request N N( N)*", "advance N", "release N", "cancel N", "withdraw N", "step N",
         "delay N N N", "exchange N N"]


def has_form(line, form):
    return re.fullmatch(form.replace("N", NUMBER), line) is not None


def allowed_next(lines, plan):
    """Return the forms that the line after these good lines may have, and whether the text may end here."""
    if not lines:
        return ["layout N"], False
    if len(lines) <= int(lines[0].split()[1]):
        return ["plain N", "yard N"], False
    heads = [at for at, line in enumerate(lines) if line.startswith("plan ")]
    if not heads:
        return ["joint N N"] + ["plan N"] * plan, not plan
    if len(lines) - heads[0] <= int(lines[heads[0]].split()[1]):
        return ["train N N( N)*"], False
    return ["turn N N"] + ["order N N( N)*"] * (not lines[-1].startswith("turn")), True


def ascends(before, line):
    """Tell whether the line may follow the one before as far as their numbers go."""
    word, *numbers = line.split()
    if word not in ("joint", "order", "turn") or word != before.split()[0]:
        return True
    many = 1 if word == "order" else 2
    return [int(number) for number in before.split()[1:many + 1]] < [int(number) for number in numbers[:many]]


def bad_line(text, plan):
    """Return the number of the first bad line of a layout or a plan, or None."""
    *lines, rest = text.split("\n")
    for at, line in enumerate(lines):
        forms, _ = allowed_next(lines[:at], plan)
        if not any(has_form(line, form) for form in forms) or at > 0 and not ascends(lines[at - 1], line):
            return at + 1
    may_end = allowed_next(lines, plan)[1]
    return None if may_end and rest == "" else len(lines) + 1


def bad_deed(text):
    """Return the number of the first bad line of a text of deeds, or None."""
    *lines, rest = text.split("\n")
    for at, line in enumerate(lines):
        if not any(has_form(line, form) for form in DEEDS):
            return at + 1
    return None if rest == "" else len(lines) + 1


def plain_value(text, plan):
    """Return the layout or the plan of a text without bad lines; raise what [65] says."""
    rows = [[line.split()[0]] + [int(word) for word in line.split()[1:]] for line in text.split("\n")[:-1]]
    blocks = [row for row in rows if row[0] in ("plain", "yard")]
    joints = [tuple(row[1:]) for row in rows if row[0] == "joint"]
    yards = [at for at, row in enumerate(blocks) if row[0] == "yard"]
    layout = Layout([row[1] for row in blocks], joints, yards=yards)
    if not plan:
        return layout
    trains = [Train(row[2:], length=row[1]) for row in rows if row[0] == "train"]
    orders = {row[1]: row[2:] for row in rows if row[0] == "order"}
    turns = [tuple(row[1:]) for row in rows if row[0] == "turn"]
    lists = [orders.get(block, []) for block in range(layout.size)]
    Plan(layout, trains, lists)
    for block in sorted(orders):
        if block >= layout.size:
            raise BadOrder(block)
    return Plan(layout, trains, lists, turns=turns)


def near_texts(text, signs):
    """Yield every text that differs from the text in one sign: another one, one less or one more."""
    for at in range(len(text) + 1):
        for sign in signs:
            yield text[:at] + sign + text[at:]
            if at < len(text) and text[at] != sign:
                yield text[:at] + sign + text[at + 1:]
        if at < len(text):
            yield text[:at] + text[at + 1:]
