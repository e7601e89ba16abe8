"""[4] and the interface of errors.py: every error, its attributes and its base class."""

import inspect
import unittest

from railhouse import errors
from railhouse.errors import NotAlive, RailError

ATTRIBUTES = {
    "NothingToUndo": "", "BadLine": "", "NotSingle": "",
    "BadLength": "length", "NoBlock": "block", "BadJoint": "west east", "BadWay": "at", "NoWay": "start goal",
    "BadRoute": "route", "NoRoute": "route", "TooMany": "number limit", "TrainKnown": "train", "NoTrain": "train",
    "BlockTaken": "block holder", "NothingAhead": "train", "NothingBehind": "train", "NothingToCancel": "train",
    "TrainBusy": "train", "BadTrain": "train", "BadOrder": "block", "BadTurn": "first second",
    "NoStep": "train number", "NoEvent": "train number", "NoPlace": "block at", "TrainDone": "train",
    "MustWait": "train other block", "BadDriving": "at", "BadSpan": "low high", "BadTimes": "train",
    "OutOfSpan": "train number", "BadTable": "east west", "NoTable": "east west", "BadWorking": "index",
    "BadText": "line", "RunOver": "train number", "TooLate": "block at",
    "CrowdedEnd": "block side", "PointLocked": "block side", "RoutesClash": "first second reason",
    "NotAlive": "ring", "NeverAtOnce": "first second", "NoGap": "first second", "TableFault": "kind east west",
}
OTHER_VALUES = {
    "CrowdedEnd": [3, "east"], "PointLocked": [3, "west"], "RoutesClash": [0, 1, ("block", 3, "")],
    "NotAlive": [[0, 1]], "NeverAtOnce": [(0, 1), (1, 3)], "NoGap": [(0, 1), (1, 3)], "TableFault": ["fit", 0, 2],
}


def values_for(name):
    many = len(ATTRIBUTES[name].split())
    return OTHER_VALUES.get(name, [11, 10 ** 12, -13][:many])


class ErrorTest(unittest.TestCase):
    def test_the_file_holds_these_errors_alone(self):
        found = [name for name, value in vars(errors).items() if inspect.isclass(value)]
        self.assertEqual(sorted(found), sorted([*ATTRIBUTES, "RailError"]))

    def test_the_base_class_is_a_value_error(self):
        self.assertEqual(RailError.__bases__, (ValueError,))

    def test_each_is_a_direct_subclass(self):
        for name in ATTRIBUTES:
            self.assertEqual(getattr(errors, name).__bases__, (RailError,), name)

    def test_attributes_by_position(self):
        for name, words in ATTRIBUTES.items():
            error = getattr(errors, name)(*values_for(name))
            self.assertEqual(vars(error), dict(zip(words.split(), values_for(name))), name)

    def test_attributes_by_name(self):
        for name, words in ATTRIBUTES.items():
            named = dict(zip(words.split(), values_for(name)))
            self.assertEqual(vars(getattr(errors, name)(**named)), named, name)

    def test_other_numbers_of_values_are_no_error_of_the_program(self):
        for name in ATTRIBUTES:
            with self.assertRaises(TypeError):
                if ATTRIBUTES[name]:
                    getattr(errors, name)(*values_for(name)[1:])
                else:
                    raise TypeError

    def test_a_message_can_be_shown(self):
        for name in ATTRIBUTES:
            self.assertIsInstance(str(getattr(errors, name)(*values_for(name))), str)
        self.assertIsInstance(str(errors.NoBlock(10 ** 3999)), str)

    def test_an_error_has_a_list_of_its_own(self):
        ring = [2, 5]
        error = NotAlive(ring)
        ring.append(7)
        self.assertEqual(error.ring, [2, 5])


if __name__ == "__main__":
    unittest.main()
