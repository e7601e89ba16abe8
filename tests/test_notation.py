"""[64] and [65]: the written forms of layouts and plans."""

import unittest

from railhouse.errors import BadJoint, BadLength, BadOrder, BadText, BadTrain, BadTurn, CrowdedEnd, NoBlock, RailError
from railhouse.layout import Layout
from railhouse.notation import format_layout, format_plan, parse_layout, parse_plan
from railhouse.plans import Plan
from railhouse.trains import Train
from tests.plain_plans import ALIVE, CHAIN, DEAD, EMPTY, IDLE, RING_OF_TURNS, SHUTTLE, busy_plans, chance_plan, great_plan
from tests.plain_plans import picture
from tests.plain_texts import bad_line, near_texts, plain_value
from tests.support import GREAT, Case, chance_layout, everything

CHAIN_TEXT = """layout 5
yard 200
plain 100
yard 50
plain 100
yard 200
joint 0 1
joint 1 2
joint 2 3
joint 3 4
"""
SHUTTLE_TEXT = CHAIN_TEXT + """plan 3
train 1 0 1 2
train 1 2 1 0
train 1 0 1 2
order 1 0 1 2
turn 0 1
turn 1 2
"""
DEAD_TEXT = CHAIN_TEXT + """plan 2
train 70 0 1 2 3 4
train 60 4 3 2 1 0
order 1 0 1
order 3 1 0
"""
# A layout of two joined yards and a plain block, and a plan over it, in few signs.
SHORT = "layout 3\nyard 5\nyard 7\nplain 1\njoint 0 1\njoint 1 2\n"
SHORT_PLAN = SHORT + "plan 2\ntrain 3 0 1 2\ntrain 1 1 0\norder 2 0\nturn 1 0\n"
SIGNS = " \n0129alpy-"


def many_digits(text):
    """Return the number with these digits, which may be more than Python reads at once."""
    number = 0
    for digit in text:
        number = 10 * number + int(digit)
    return number


def refuse_line(case, call, text, line):
    case.refused(BadText, {"line": line}, call, text)


class FormatTest(Case):
    def test_layouts(self):
        self.assertEqual(format_layout(Layout([5, 7], [(0, 1)], yards=[1])), "layout 2\nplain 5\nyard 7\njoint 0 1\n")
        self.assertEqual(format_layout(CHAIN), CHAIN_TEXT)

    def test_joints_ascend(self):
        layout = Layout([1] * 12, [(3, 11), (3, 10), (0, 2), (2, 11), (0, 1)])
        text = format_layout(layout)
        self.assertEqual(text.split("\n")[13:], ["joint 0 1", "joint 0 2", "joint 2 11", "joint 3 10", "joint 3 11", ""])

    def test_a_layout_without_blocks(self):
        self.assertEqual(format_layout(Layout([], [])), "layout 0\n")

    def test_plans(self):
        self.assertEqual(format_plan(SHUTTLE), SHUTTLE_TEXT)
        self.assertEqual(format_plan(DEAD), DEAD_TEXT)

    def test_a_plan_without_trains(self):
        self.assertEqual(format_plan(EMPTY), "layout 0\nplan 0\n")
        self.assertEqual(format_plan(IDLE), CHAIN_TEXT + "plan 0\n")

    def test_a_plan_without_orders_and_turns(self):
        plan = Plan(CHAIN, [Train([2], length=9)], [[]] * 5)
        self.assertEqual(format_plan(plan), CHAIN_TEXT + "plan 1\ntrain 9 2\n")

    def test_turns_ascend(self):
        trains = [Train([0, 1, 2]), Train([2, 1, 0]), Train([0, 1, 2])]
        plan = Plan(CHAIN, trains, [[], [0, 1, 2], [], [], []], turns=[(1, 2), (0, 1)])
        self.assertEqual(format_plan(plan), SHUTTLE_TEXT)

    def test_great_numbers(self):
        # More digits than a text that is read may have, and more than Python writes at once.
        for digits in (13, 14, 63, 64, 65, 128, 129, 999, 4000, 4300, 4301, 6000):
            mixed = ("1020304050607" * 500)[:digits]
            for number, text in ((10 ** (digits - 1), "1" + "0" * (digits - 1)), (10 ** digits - 1, "9" * digits),
                                 (int(mixed[:9]) * 10 ** (digits - 9) + many_digits(mixed[9:]), mixed)):
                layout = Layout([number], [])
                self.assertEqual(format_layout(layout), "layout 1\nplain " + text + "\n")
                plan = Plan(layout, [Train([0], length=number)], [[0]])
                self.assertEqual(format_plan(plan).split("\n")[3], "train " + text + " 0")

    def test_by_name_and_nothing_is_modified(self):
        before = picture(SHUTTLE)
        self.assertEqual(format_plan(plan=SHUTTLE), SHUTTLE_TEXT)
        self.assertEqual(format_layout(layout=SHUTTLE.layout), CHAIN_TEXT)
        self.assertEqual(picture(SHUTTLE), before)


class RoundTest(Case):
    def test_layouts(self):
        for seed in range(80):
            layout = chance_layout(seed, seed % 15, 30, yards=0.4)
            text = format_layout(layout)
            self.assertIsNone(bad_line(text, False))
            self.assertEqual(parse_layout(text), layout)
            self.assertEqual(format_layout(parse_layout(text)), text)

    def test_plans(self):
        for plan in busy_plans(40) + [chance_plan(seed) for seed in range(40)] + [ALIVE, DEAD, SHUTTLE, RING_OF_TURNS]:
            text = format_plan(plan)
            self.assertIsNone(bad_line(text, True))
            self.assertEqual(picture(parse_plan(text)), picture(plan))
            self.assertEqual(format_plan(parse_plan(text)), text)

    def test_nothing_to_write(self):
        self.assertEqual(parse_layout("layout 0\n"), Layout([], []))
        for plan in (EMPTY, IDLE):
            self.assertEqual(picture(parse_plan(format_plan(plan))), picture(plan))

    def test_by_name(self):
        self.assertEqual(parse_layout(text=CHAIN_TEXT), CHAIN)
        self.assertEqual(picture(parse_plan(text=DEAD_TEXT)), picture(DEAD))


class LineTest(Case):
    def test_numbers(self):
        for number in ("0", "1", "10", "9" * 13, "1" + "0" * 12):
            text = f"layout 1\nplain {number}\n"
            if number == "0":
                self.refused(BadLength, {"length": 0}, parse_layout, text)
            else:
                self.assertEqual(parse_layout(text).length_of(0), int(number))
        for word in ("9" * 14, "1" + "0" * 13, "05", "00", "-1", "+1", "1_0", "0x1", "1.0", "", "a", "1a", "5\t", "\t5",
                     "\u0665", "\u00b2", "\uff15", "\u0e55", "5\r", "0" * 14, "1e2"):
            refuse_line(self, parse_layout, f"layout 1\nplain {word}\n", 2)
            refuse_line(self, parse_layout, f"layout {word}\nplain 5\n", 1)
            refuse_line(self, parse_plan, f"layout 0\nplan {word}\n", 2)
            refuse_line(self, parse_plan, f"layout 1\nyard 1\nplan 1\ntrain 1 {word}\n", 4)

    def test_spaces(self):
        for line in ("plain  5", " plain 5", "plain 5 ", "plain", "plain ", "plain 5 5", "plain\t5", "Plain 5", "plain5",
                     "", " ", "  ", "layout 1", "joint 0 1", "order 0 0", "plains 5", "plai 5", "5 plain"):
            refuse_line(self, parse_layout, f"layout 1\n{line}\n", 2)
            refuse_line(self, parse_layout, f"layout 2\nplain 5\n{line}\n", 3)

    def test_an_empty_line(self):
        lines = SHORT_PLAN.split("\n")[:-1]
        for at in range(len(lines) + 1):
            text = "\n".join(lines[:at] + [""] + lines[at:]) + "\n"
            refuse_line(self, parse_plan, text, at + 1)
        refuse_line(self, parse_layout, "\n", 1)
        refuse_line(self, parse_plan, "\n", 1)

    def test_the_empty_text(self):
        for call in (parse_layout, parse_plan):
            refuse_line(self, call, "", 1)

    def test_a_last_line_without_newline(self):
        lines = SHORT_PLAN.split("\n")[:-1]
        for many in range(1, len(lines) + 1):
            refuse_line(self, parse_plan, "\n".join(lines[:many]), many)
        refuse_line(self, parse_layout, "layout 0", 1)
        refuse_line(self, parse_layout, SHORT[:-1], 6)
        refuse_line(self, parse_layout, SHORT + "j", 7)
        refuse_line(self, parse_layout, SHORT + " ", 7)

    def test_a_bad_line_before_a_last_line_without_newline(self):
        refuse_line(self, parse_layout, "layout 1\nplain 05\njoint", 2)

    def test_a_line_that_is_missing_at_the_end(self):
        lines = SHORT_PLAN.split("\n")[:-1]
        for many in range(7):
            text = "".join(line + "\n" for line in lines[:many])
            if many < 4:
                refuse_line(self, parse_layout, text, many + 1)
            refuse_line(self, parse_plan, text, many + 1)
        for many in (7, 8):
            refuse_line(self, parse_plan, "".join(line + "\n" for line in lines[:many]), many + 1)
        refuse_line(self, parse_layout, "layout 9999999999999\n", 2)
        refuse_line(self, parse_plan, "layout 0\nplan 9999999999999\n", 3)

    def test_a_line_too_many(self):
        for line in ("plain 5", "yard 5", "layout 0", "plan 0", "order 0 0", "turn 0 1", "train 1 0", "x"):
            refuse_line(self, parse_layout, SHORT + line + "\n", 7)
        for line in ("plain 5", "yard 5", "layout 0", "plan 0", "joint 5 6", "train 1 0", "order 9 0", "x", "step 0"):
            refuse_line(self, parse_plan, SHORT_PLAN + line + "\n", 12)

    def test_a_kind_that_cannot_come_here(self):
        refuse_line(self, parse_plan, SHORT.replace("joint 0 1\njoint 1 2\n", "plan 0\njoint 0 1\n"), 6)
        refuse_line(self, parse_plan, "layout 0\nplan 1\norder 0 0\n", 3)
        refuse_line(self, parse_plan, "layout 0\nplan 0\ntrain 1 0\n", 3)
        refuse_line(self, parse_plan, "layout 0\nplan 0\nturn 0 1\norder 0 0\n", 4)
        refuse_line(self, parse_plan, "plan 0\nlayout 0\n", 1)
        refuse_line(self, parse_layout, "plan 0\n", 1)
        refuse_line(self, parse_layout, "layout 0\nplan 0\n", 2)

    def test_too_few_numbers_and_too_many(self):
        for line in ("joint 0", "joint 0 1 2", "joint", "plan", "plan 0 0"):
            refuse_line(self, parse_plan, "layout 0\n" + line + "\n", 2)
        for line in ("train 1", "train", "train 1 ", "train 1 0 "):
            refuse_line(self, parse_plan, "layout 0\nplan 1\n" + line + "\n", 3)
        for line in ("order 0", "order", "turn 0", "turn", "turn 0 1 2", "order 0 0 x", "order 0 0  0"):
            refuse_line(self, parse_plan, "layout 0\nplan 0\n" + line + "\n", 3)

    def test_joints_that_do_not_ascend(self):
        text = "layout 3\nplain 1\nplain 1\nplain 1\n"
        for lines in ("joint 1 2\njoint 0 1\n", "joint 0 2\njoint 0 1\n", "joint 0 1\njoint 0 1\n", "joint 2 0\njoint 1 9\n"):
            for call in (parse_layout, parse_plan):
                refuse_line(self, call, text + lines, 6)
        self.assertEqual(parse_layout(text + "joint 0 1\njoint 0 2\n").joints(), [(0, 1), (0, 2)])
        # Each line is compared with the one before, not with the first one.
        refuse_line(self, parse_layout, text + "joint 0 1\njoint 1 2\njoint 0 2\n", 7)
        # Numbers are compared, not words.
        self.refused(NoBlock, {"block": 10}, parse_layout, text + "joint 0 2\njoint 0 10\n")
        refuse_line(self, parse_layout, text + "joint 0 10\njoint 0 2\n", 6)

    def test_orders_that_do_not_ascend(self):
        text = "layout 2\nplain 1\nplain 1\njoint 0 1\nplan 1\ntrain 1 0 1\n"
        for lines in ("order 1 0\norder 0 0\n", "order 0 0\norder 0 0\n", "order 0 0\norder 0 1\n", "order 10 0\norder 9 0\n"):
            refuse_line(self, parse_plan, text + lines, 8)
        self.assertEqual(parse_plan(text + "order 0 0\norder 1 0\n").order(1), [0])

    def test_turns_that_do_not_ascend(self):
        text = "layout 1\nyard 1\nplan 3\n" + "train 1 0\n" * 3
        for lines in ("turn 1 2\nturn 0 1\n", "turn 0 1\nturn 0 1\n", "turn 0 2\nturn 0 1\n", "turn 0 10\nturn 0 9\n"):
            refuse_line(self, parse_plan, text + lines, 8)
        self.assertEqual(parse_plan(text + "turn 0 1\nturn 1 2\n").turns(), [(0, 1), (1, 2)])
        self.refused(BadTurn, {"first": 0, "second": 2}, parse_plan, text + "turn 0 1\nturn 0 2\n")

    def test_every_text_that_is_near(self):
        kinds = {}
        for text, call, plan in ((SHORT, parse_layout, False), (SHORT_PLAN, parse_plan, True), ("layout 0\n", parse_layout, False)):
            for other in near_texts(text, SIGNS):
                kind = self.check_text(other, call, plan)
                kinds[kind] = kinds.get(kind, 0) + 1
        self.assertTrue(all(kinds.get(kind, 0) > 20 for kind in ("BadText", "error", "value")), kinds)

    def check_text(self, text, call, plan):
        """Check that the text is refused as [65] says or is the written form of its value."""
        line = bad_line(text, plan)
        if line is not None:
            refuse_line(self, call, text, line)
            return "BadText"
        try:
            plain_value(text, plan)
        except RailError as error:
            self.refused(type(error), vars(error), call, text)
            return "error"
        self.assertEqual((format_plan if plan else format_layout)(call(text)), text)
        return "value"


class ValueTest(Case):
    def test_errors_of_a_layout(self):
        for text, error, values in (
            ("layout 2\nplain 5\nplain 0\n", BadLength, {"length": 0}),
            ("layout 2\nplain 5\nyard 0\njoint 0 9\n", BadLength, {"length": 0}),
            ("layout 1\nplain 5\njoint 0 1\n", NoBlock, {"block": 1}),
            ("layout 1\nplain 5\njoint 3 1\n", NoBlock, {"block": 3}),
            ("layout 2\nplain 5\nplain 5\njoint 1 0\n", BadJoint, {"west": 1, "east": 0}),
            ("layout 2\nplain 5\nplain 5\njoint 1 1\n", BadJoint, {"west": 1, "east": 1}),
            ("layout 4\n" + "plain 5\n" * 4 + "joint 0 1\njoint 0 2\njoint 0 3\n", CrowdedEnd, {"block": 0, "side": "east"}),
        ):
            self.refused(error, values, parse_layout, text)
            # The errors of the layout stand before all others of a plan.
            self.refused(error, values, parse_plan, text + "plan 1\ntrain 0 99\norder 7 3\nturn 5 5\n")

    def test_all_lines_are_read_before_a_value_is_checked(self):
        refuse_line(self, parse_layout, "layout 2\nplain 0\nplain 05\n", 3)
        refuse_line(self, parse_layout, "layout 1\nplain 0\njoint 5 3\njoint 5 2\n", 4)
        refuse_line(self, parse_plan, "layout 1\nplain 0\njoint 5 3\nplan 1\ntrain 0 9\norder 7 7\nturn 8 8\nturn 8 8\n", 8)

    def test_then_the_lengths_of_trains(self):
        text = "layout 1\nplain 5\nplan 3\ntrain 2 7\ntrain 0 0\ntrain 0 9\norder 8 8\nturn 5 5\n"
        self.refused(BadLength, {"length": 0}, parse_plan, text)

    def test_then_the_errors_of_a_plan(self):
        head = "layout 3\nplain 5\nyard 5\nplain 5\njoint 0 1\nplan 2\n"
        self.refused(BadTrain, {"train": 0}, parse_plan, head + "train 2 7\ntrain 2 9\norder 8 8\nturn 5 5\n")
        self.refused(BadTrain, {"train": 1}, parse_plan, head + "train 2 0\ntrain 2 0 2\norder 8 8\nturn 5 5\n")
        trains = "train 2 0 1\ntrain 2 0 1\n"
        for orders, block in (
            ("", 0), ("order 0 0\n", 0), ("order 0 0 0\n", 0), ("order 0 0 2\n", 0), ("order 0 0 1 1\n", 0),
            ("order 0 0 1\norder 1 0 1\n", 1), ("order 0 0 1\norder 1 0\norder 2 0\n", 1), ("order 0 1 0\norder 2 0\n", 2),
            ("order 3 0\n", 0), ("order 0 0 1\norder 2 0\norder 3 1\n", 2),
        ):
            self.refused(BadOrder, {"block": block}, parse_plan, head + trains + orders + "turn 5 5\n")
        self.refused(BadTurn, {"first": 5, "second": 5}, parse_plan, head + trains + "order 0 1 0\nturn 5 5\n")

    def test_an_order_line_with_a_number_that_is_no_block(self):
        head = "layout 1\nplain 5\nplan 1\ntrain 2 0\norder 0 0\n"
        for lines, block in (("order 1 0\n", 1), ("order 5 0\norder 7 0\n", 5), ("order 9999999999999 7\n", 9999999999999)):
            self.refused(BadOrder, {"block": block}, parse_plan, head + lines + "turn 5 5\n")
        self.refused(BadOrder, {"block": 0}, parse_plan, "layout 0\nplan 0\norder 0 0\n")

    def test_an_order_that_is_not_written_is_empty(self):
        plan = parse_plan("layout 2\nplain 5\nyard 5\njoint 0 1\nplan 1\ntrain 2 1\n")
        self.assertEqual((plan.order(0), plan.order(1), plan.train_of(0).blocks()), ([], [], [1]))

    def test_a_dead_plan_is_no_error(self):
        self.assertEqual(picture(parse_plan(DEAD_TEXT)), picture(DEAD))


class BoundTest(Case):
    def test_twelve_trains(self):
        plan = great_plan()
        text = self.quick(format_plan, plan, seconds=1)
        self.assertEqual(picture(self.quick(parse_plan, text, seconds=1)), picture(plan))
        yards = everything(60)
        text = self.quick(format_layout, yards, seconds=1)
        self.assertEqual(self.quick(parse_layout, text, seconds=1), yards)

    def test_forty_thousand_characters(self):
        for line, many in (("plain 5", 4900), ("yard 5", 5600)):
            text = f"layout {many}\n" + (line + "\n") * many
            self.assertEqual(self.quick(parse_layout, text).size, many)
            refuse_line(self, parse_layout, text + "x", many + 2)
        text = "layout 1\nyard 1\nplan 3900\n" + "train 1 0\n" * 3900
        self.assertEqual(self.quick(parse_plan, text).size, 3900)
        text = "layout 0\nplan 0\n" + "".join(f"turn 0 {at}\n" for at in range(3500))
        self.quick(self.refused, BadTurn, {"first": 0, "second": 0}, parse_plan, text)
        self.quick(refuse_line, self, parse_plan, "layout 0\nplan 0\n" + "\n" * 39900, 3)
        self.quick(refuse_line, self, parse_layout, " " * 40000, 1)
        self.quick(refuse_line, self, parse_layout, "layout " + "9" * 39000 + "\n", 1)

    def test_great_numbers(self):
        layout = Layout([GREAT] * 60, [(at, at + 1) for at in range(59)])
        lines = self.quick(format_layout, layout, seconds=2).split("\n")
        self.assertEqual(lines[60], "plain 1" + "0" * 3999)
        self.assertEqual((len(lines), lines[61]), (121, "joint 0 1"))


if __name__ == "__main__":
    unittest.main()
