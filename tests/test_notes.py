"""[66]: the written forms of deeds."""

import random
import unittest

from railhouse.errors import BadText
from railhouse.layout import Layout
from railhouse.deeds import perform, replay
from railhouse.notes import format_deeds, parse_deeds
from railhouse.panel import Panel
from tests.plain_texts import bad_deed, near_texts
from tests.support import GREAT, Case

DEEDS = [
    ("place", 7, 0, "east"), ("place", 0, 12, "west"), ("request", 7, (1,)), ("request", 7, (2, 3, 40)), ("advance", 7),
    ("release", 7), ("cancel", 7), ("withdraw", 7), ("step", 1), ("delay", 1, 0, 30), ("exchange", 3, 0),
]
TEXT = """place 7 0 east
place 0 12 west
request 7 1
request 7 2 3 40
advance 7
release 7
cancel 7
withdraw 7
step 1
delay 1 0 30
exchange 3 0
"""


def chance_deeds(seed, many):
    chance, found = random.Random(seed), []

    def number():
        return chance.choice((0, 1, chance.randint(2, 99), 10 ** 12, 10 ** 13 - 1))

    for _ in range(many):
        word = chance.choice([deed[0] for deed in DEEDS])
        if word == "place":
            found.append((word, number(), number(), chance.choice(("east", "west"))))
        elif word == "request":
            found.append((word, number(), tuple(number() for _ in range(chance.randint(1, 5)))))
        else:
            found.append((word, *[number() for _ in range({"delay": 3, "exchange": 2}.get(word, 1))]))
    return found


class FormatTest(Case):
    def test_each_kind(self):
        self.assertEqual(format_deeds(DEEDS), TEXT)
        for deed, line in zip(DEEDS, TEXT.split("\n")):
            self.assertEqual(format_deeds([deed]), line + "\n")

    def test_no_deeds(self):
        self.assertEqual(format_deeds([]), "")

    def test_great_numbers(self):
        for digits in (13, 14, 64, 4000, 4301, 5000):
            number, text = 10 ** digits - 1, "9" * digits
            deeds = [("request", number, (number, 0, number)), ("delay", 0, number, 0), ("place", number, number, "east")]
            lines = [f"request {text} {text} 0 {text}", f"delay 0 {text} 0", f"place {text} {text} east", ""]
            self.assertEqual(format_deeds(deeds).split("\n"), lines)

    def test_nothing_is_modified(self):
        deeds = list(DEEDS)
        self.assertEqual(format_deeds(deeds=deeds), TEXT)
        self.assertEqual(deeds, DEEDS)

    def test_the_journal_of_a_panel(self):
        layout = Layout([40, 40, 60, 60], [(0, 2), (0, 3), (1, 3)])
        panel = Panel(layout)
        perform(panel, [("place", 7, 1, "east"), ("request", 7, [3]), ("advance", 7), ("place", 2, 0, "east")])
        text = format_deeds(panel.journal())
        self.assertEqual(text, "place 7 1 east\nrequest 7 3\nadvance 7\nplace 2 0 east\n")
        self.assertEqual(replay(layout, parse_deeds(text)).state(), panel.state())


class ParseTest(Case):
    def test_each_kind(self):
        self.assertEqual(parse_deeds(TEXT), DEEDS)
        self.assertEqual(parse_deeds(text=TEXT), DEEDS)

    def test_the_empty_text(self):
        self.assertEqual(parse_deeds(""), [])

    def test_kinds_of_values(self):
        deeds = parse_deeds(TEXT)
        self.assertEqual([type(deed) for deed in deeds], [tuple] * len(DEEDS))
        self.assertEqual((type(deeds[3][2]), type(deeds[3][1]), type(deeds[0][3])), (tuple, int, str))

    def test_new(self):
        parse_deeds(TEXT).clear()
        self.assertEqual(parse_deeds(TEXT), DEEDS)

    def test_by_chance(self):
        for seed in range(100):
            deeds = chance_deeds(seed, seed % 12)
            text = format_deeds(deeds)
            self.assertIsNone(bad_deed(text))
            self.assertEqual(parse_deeds(text), deeds)
            self.assertEqual(format_deeds(parse_deeds(text)), text)

    def test_bad_lines(self):
        for line in (
            "", " ", "step", "step ", "step 01", "step -1", "step 1 2", "step  1", " step 1", "step 1 ", "Step 1", "steps 1",
            "step 99999999999999", "step one", "step\t1", "place 1 2", "place 1 2 3", "place 1 2 east ", "place 1 2 east 3",
            "place 1 east", "place 1 2 up", "place 1 2 East", "place east 1 2", "place 1 2 eastwest", "place 1 2 ",
            "request 1", "request 1 ", "request", "request 1 2 ", "request 1 2 east", "request 1 02", "request 1  2",
            "advance", "advance 1 2", "release", "release 1 1", "cancel", "cancel 0 0", "withdraw", "withdraw 1 0",
            "delay 1 2", "delay 1 2 3 4", "delay", "exchange 1", "exchange 1 2 3", "exchange", "turn 0 1", "plan 0",
            "undo", "step \u0661", "step \u00b9", "run", "HEADING", "east", "place 1 2 HEADING", "..", "request 1 ..",
            "step east", "delay 1 2 west", "place west east east",
        ):
            self.refused(BadText, {"line": 1}, parse_deeds, line + "\n")
            self.refused(BadText, {"line": 3}, parse_deeds, "step 1\nstep 1\n" + line + "\nx\n")

    def test_a_last_line_without_newline(self):
        lines = TEXT.split("\n")[:-1]
        for many in range(1, len(lines) + 1):
            self.refused(BadText, {"line": many}, parse_deeds, "\n".join(lines[:many]))
        self.refused(BadText, {"line": 1}, parse_deeds, " ")
        self.refused(BadText, {"line": 2}, parse_deeds, "step 1\n ")
        self.refused(BadText, {"line": 1}, parse_deeds, "x\nstep 1")

    def test_numbers(self):
        for number in (0, 1, 10 ** 12, 10 ** 13 - 1):
            self.assertEqual(parse_deeds(f"delay {number} 0 {number}\n"), [("delay", number, 0, number)])
        for word in ("10000000000000", "00", "007", "+1", "1_000", "1.", "0x1"):
            self.refused(BadText, {"line": 1}, parse_deeds, f"delay 0 0 {word}\n")

    def test_every_text_that_is_near(self):
        kinds = {True: 0, False: 0}
        text = "place 3 0 east\nrequest 3 10 2\nstep 1\ndelay 1 0 3\n"
        for other in near_texts(text, " \n019aestw-"):
            line = bad_deed(other)
            kinds[line is None] += 1
            if line is None:
                self.assertEqual(format_deeds(parse_deeds(other)), other)
            else:
                self.refused(BadText, {"line": line}, parse_deeds, other)
        self.assertGreater(min(kinds.values()), 50, kinds)


class BoundTest(Case):
    def test_forty_thousand_characters(self):
        text = "step 1\n" * 5700
        self.assertEqual(self.quick(parse_deeds, text, seconds=1), [("step", 1)] * 5700)
        self.assertEqual(self.quick(format_deeds, [("step", 1)] * 5700, seconds=1), text)
        blocks = tuple(range(1000))
        long = self.quick(format_deeds, [("request", 10 ** 12, blocks)] * 9, seconds=1)
        self.assertEqual(self.quick(parse_deeds, long, seconds=1), [("request", 10 ** 12, blocks)] * 9)
        self.quick(self.refused, BadText, {"line": 5701}, parse_deeds, text + "x", seconds=2)
        self.quick(self.refused, BadText, {"line": 1}, parse_deeds, "1" * 40000, seconds=1)

    def test_great_numbers(self):
        lines = self.quick(format_deeds, [("delay", GREAT, GREAT, GREAT)] * 1000)
        self.assertEqual(len(lines), 1000 * (6 + 3 * 4001))


if __name__ == "__main__":
    unittest.main()
