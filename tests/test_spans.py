"""[45]: spans."""

import unittest
from itertools import product

from railhouse.errors import BadSpan
from railhouse.spans import Span
from tests.support import GREAT, Case

SPANS = [(low, high) for low in range(-2, 4) for high in range(low, 4)]


def ends(span):
    return span.low, span.high


class SpanTest(Case):
    def test_attributes(self):
        span = Span(3, 7)
        self.assertEqual((span.low, span.high, span.width), (3, 7, 4))
        self.assertEqual(ends(Span(low=3, high=7)), (3, 7))
        self.assertEqual(sorted(vars(span)), ["high", "low"])

    def test_width_0(self):
        span = Span(5, 5)
        self.assertEqual((ends(span), span.width), ((5, 5), 0))
        self.assertEqual([x in span for x in (4, 5, 6)], [False, True, False])

    def test_numbers_of_any_kind(self):
        self.assertEqual(Span(-7, -3).width, 4)
        self.assertEqual(Span(-GREAT, GREAT).width, 2 * GREAT)
        self.assertEqual(ends(Span(0, 0)), (0, 0))

    def test_bad_span(self):
        for low, high in ((1, 0), (0, -1), (8, 7), (GREAT, -GREAT)):
            self.refused(BadSpan, {"low": low, "high": high}, Span, low, high)
        self.refused(BadSpan, {"low": 2, "high": 1}, Span, high=1, low=2)

    def test_contains(self):
        for low, high in SPANS:
            for x in range(-4, 6):
                self.assertIs(x in Span(low, high), x in range(low, high + 1))

    def test_every_two(self):
        for first, second in product(SPANS, repeat=2):
            a, b = Span(*first), Span(*second)
            self.assertEqual(ends(a + b), (first[0] + second[0], first[1] + second[1]))
            self.assertEqual(ends(a | b), (min(first + second), max(first + second)))
            common = [x for x in range(-9, 9) if first[0] <= x <= first[1] and second[0] <= x <= second[1]]
            if common:
                self.assertEqual(ends(a & b), (common[0], common[-1]))
            else:
                values = {"low": max(first[0], second[0]), "high": min(first[1], second[1])}
                self.refused(BadSpan, values, lambda left, right: left & right, a, b)
            self.assertIs(a == b, first == second)
            self.assertIs(a != b, first != second)
            self.assertEqual((ends(a), ends(b)), (first, second))

    def test_spans_that_only_touch_and_spans_apart(self):
        self.assertEqual(ends(Span(1, 4) & Span(4, 9)), (4, 4))
        self.assertEqual(ends(Span(4, 9) & Span(1, 4)), (4, 4))
        self.refused(BadSpan, {"low": 5, "high": 4}, lambda: Span(1, 4) & Span(5, 9))
        self.refused(BadSpan, {"low": 5, "high": 4}, lambda: Span(5, 9) & Span(1, 4))
        self.assertEqual(ends(Span(1, 2) | Span(7, 9)), (1, 9))
        self.assertEqual(ends(Span(7, 9) | Span(1, 2)), (1, 9))

    def test_one_inside_the_other(self):
        self.assertEqual((ends(Span(1, 9) & Span(3, 4)), ends(Span(1, 9) | Span(3, 4))), ((3, 4), (1, 9)))

    def test_a_value_of_another_kind(self):
        for other in ((1, 2), [1, 2], 1, "1", None, {"low": 1, "high": 2}):
            self.assertIs(Span(1, 2) == other, False)
            self.assertIs(Span(1, 2) != other, True)
            self.assertIs(other == Span(1, 2), False)

    def test_new_objects(self):
        a = Span(1, 2)
        for made in (a + a, a | a, a & a):
            self.assertIsInstance(made, Span)
        self.assertEqual(ends(a), (1, 2))


if __name__ == "__main__":
    unittest.main()
