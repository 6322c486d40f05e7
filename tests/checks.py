"""What several tests need: a check of refused calls, and values of every kind."""

import sys
import unittest

from headgap.arrays import Beyond, Fits
from headgap.converters import Converter
from headgap.cuts import Cut, EndlessCut
from headgap.desk import Desk
from headgap.gaps import Enough, Never
from headgap.growths import Growth
from headgap.live import Array
from headgap.rates import Rate
from headgap.rings import Mean, Ring
from headgap.sizes import Table
from headgap.smallest import Lengths

LINES = Converter("s", {("s", "a"): ("a", "s"), ("s", "n"): ("rn", "s")}, {"s": ""})
TWICE = Growth.ramp(2)

# Values of every kind, some of each: a test takes those that are wrong at its place.
ANYTHING = (
    None, True, False, 0, 1, 5, -1, 10 ** 30, "", "a", "abcdefgh", "abcdefghi", "A", "a b", "a\n", "1", "-", " ",
    (), ("a",), ("a", "b"), (1, 2), [], ["a", "b"], [1], {}, {"a": 1}, {("s", "a"): ("a", "s")},
    [[[[[[[[]]]]]]]], LINES, TWICE, Rate(3, 2), Rate(1), Ring("s", "n"), Mean(Rate(2), Ring("s", "n"), {"s": 0}),
    Table({"s": TWICE}), Table({}), Enough(0, {"s": 0}, "a"), Enough(None, [1], True), Never("", "n", ""),
    Fits(0, {}, {"s": 0}, "nn"), Beyond("", "n", "", "a", ""), Cut(0, {("s", "s"): 0}, "a", 1), EndlessCut("a", 1, "a", ""),
    Lengths(0, {(0, "a"): (1, 0), (0, "n"): (2, 0)}, {0: 0}), Lengths(True, [], None), Array(LINES, "ana", 1), Desk(),
)
# What decides by itself what its signs mean, also as a left operand.
WITH_SIGNS = (Converter, Growth, Rate)
NO_CONVERTERS = [value for value in ANYTHING if not isinstance(value, Converter)]
NO_TEXTS = [value for value in ANYTHING if value not in ("", "a", "abcdefgh", "abcdefghi")] + ["a" * 401]
NO_INTEGERS = [value for value in ANYTHING if type(value) is not int]


def same(one, other):
    """Whether two values are equal and of the same kind throughout."""
    if type(one) is not type(other):
        return False
    if isinstance(one, (list, tuple)):
        return len(one) == len(other) and all(same(a, b) for a, b in zip(one, other))
    if isinstance(one, dict):
        return len(one) == len(other) and all(key in other and same(one[key], other[key]) for key in one)
    return one == other


def lines_run(work, *values):
    """How many lines of Python a call runs, in all functions that it calls."""
    many = 0

    def count(frame, event, worth):
        nonlocal many
        many += event == "line"
        return count

    before = sys.gettrace()
    sys.settrace(lambda frame, event, worth: count)
    try:
        work(*values)
    finally:
        sys.settrace(before)
    return many


class Checks(unittest.TestCase):
    def refused_first(self, error, fields, works):
        """The first item of each of these generators raises just this error, or its call."""
        for work in works:
            self.refused(error, fields, lambda: next(iter(work())))

    def refused(self, error, fields, work, *values, **named):
        """work raises just this error, with these fields in their order."""
        with self.assertRaises(error) as held:
            work(*values, **named)
        self.assertIs(type(held.exception), error)
        told = tuple(vars(held.exception).values())
        self.assertTrue(same(told, tuple(fields)), f"{error.__name__}{told!r} instead of {fields!r}")

    def equal(self, one, other):
        """Both are equal, in their kinds, too."""
        self.assertTrue(same(one, other), f"{repr(one)[:400]} instead of {repr(other)[:400]}")
