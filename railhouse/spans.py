"""Spans of numbers."""

from railhouse.errors import BadSpan


class Span:
    """All numbers from a low to a high, both included."""

    def __init__(self, low, high):
        if low > high:
            raise BadSpan(low, high)
        self.low = low
        self.high = high

    @property
    def width(self):
        """The high minus the low."""
        return self.high - self.low

    def __contains__(self, x):
        return self.low <= x <= self.high

    def __add__(self, other):
        return Span(self.low + other.low, self.high + other.high)

    def __or__(self, other):
        return Span(min(self.low, other.low), max(self.high, other.high))

    def __and__(self, other):
        # If the two lie apart, these are the numbers of the error that the new span raises.
        return Span(max(self.low, other.low), min(self.high, other.high))

    def __eq__(self, other):
        return isinstance(other, Span) and self.low == other.low and self.high == other.high
