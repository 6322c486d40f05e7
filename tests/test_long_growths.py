"""headgap/growths.py: growths of about 4,000 told values, what is made of them, what is refused, and how soon."""

import operator
import time
from math import lcm

from headgap.errors import BadGrowth, TooMany
from headgap.growths import Growth
from tests.checks import ANYTHING, Checks
from tests.plain_growths import row
from tests.test_far_crossings import is_settled, less, more, outcome, outcome_of

MANY = (3999, 4000, 4001)
PERIODS = {1: [1], 7: [7] * 6 + [8], 60: [60] * 59 + [61]}


def plus(one, other):
    return None if one is None or other is None else one + other


def minus(one, other):
    return None if one is None or other is None else one - other


def told_of(many, part, has_none=False, begin=0):
    """So many told ones that nothing goes on by, with None at some of them."""
    return [None if has_none and k % 9 == part else begin + k * k % part for k in range(many)]


def values_of(told, gains):
    return row(told, gains, 9900)


def shifted(values, k):
    return values[k:] if k >= 0 else [None] * -k + values


class Values(Checks):
    def kept(self, work, values, common, seen):
        """work tells the growth of these values, or refuses it, by its normal form."""
        told = outcome(work)
        self.equal(told, outcome_of(values, common))
        kind = told if isinstance(told[0], str) else len(told[0]) > 3900
        seen[kind] = seen.get(kind, 0) + 1
        if not isinstance(told[0], str):
            growth = work()
            self.equal([growth[n] for n in range(3900, 5000)], values[3900:5000])
            # Far away each value is as much more as in the rounds ahead.
            for n in range(5000, 5000 + common):
                gain = None if values[n] is None else values[n] - values[n - common]
                far = None if gain is None else values[n] + 10 ** 30 * gain
                self.equal(growth[n + 10 ** 30 * common], far)

    def growths(self):
        """Told ones and gains, none of them refused: those of 4,001 told ones go on by their last gain already."""
        for many in MANY:
            for period, gains in PERIODS.items():
                for has_none in (False, True):
                    told = told_of(min(many, 4000), 7, has_none)
                    if many == 4001:
                        before = told[many - 1 - period]
                        told.append(None if before is None else before + gains[(many - 1) % period])
                    yield told, gains

    def test_made(self):
        for told, gains in self.growths():
            growth = Growth(told, gains)
            self.equal((growth.told, growth.gains), outcome_of(values_of(told, gains), len(gains)))
            self.equal(outcome(lambda: Growth(tuple(told), tuple(gains))), (growth.told, growth.gains))
            self.equal([growth[n] for n in range(3950, 4200)], values_of(told, gains)[3950:4200])
            self.assertGreater(len(growth.told), 3990)

    def test_too_many(self):
        for period, gains in PERIODS.items():
            for told in (told_of(4001, 7), told_of(4001, 5, True), told_of(4060, 7), [*range(3999), *[None] * period, 1],
                         [None] * 4000 + [5] * 60):
                self.refused(TooMany, ["told", 4000], Growth, told, gains)
                self.refused(TooMany, ["told", 4000], Growth, told=tuple(told), gains=tuple(gains))

    def test_far_more_told_than_needed(self):
        for many in (*MANY, 5000):
            self.equal(outcome(lambda: Growth([3 * n for n in range(many)], [3])), ((0,), (3,)))
            self.equal(outcome(lambda: Growth([3 * n for n in range(many)], [180] * 60)), ((0,), (3,)))
            self.equal(outcome(lambda: Growth([None] * many, [5] * 7)), ((None,), (0,)))
            self.equal(outcome(lambda: Growth([None, 8] + [0] * many)), ((None, 8, 0), (0,)))

    def test_two_growths(self):
        seen = {}
        rows = list(self.growths())
        others = [(told_of(many, 5, has_none, begin), gains) for many, has_none, begin in (
            (3999, False, 0), (4000, True, 3), (60, False, 2), (100, True, -4000)) for gains in PERIODS.values()]
        for k, (told, gains) in enumerate(rows):
            for others_told, climbs in others[k % 2::2]:
                one, other = Growth(told, gains), Growth(others_told, climbs)
                common = lcm(len(gains), len(climbs))
                pairs = list(zip(values_of(told, gains), values_of(others_told, climbs)))
                for sign, best in ((operator.or_, more), (operator.and_, less), (operator.add, plus), (operator.sub, minus)):
                    values = [best(a, b) for a, b in pairs]
                    if is_settled(values, one, other, common, best):
                        self.kept(lambda: sign(one, other), values, common, seen)
        for kind in (("told", 4000), ("period", 60), True):
            self.assertGreater(seen[kind], 30)

    def test_one_growth(self):
        seen = {}
        for told, gains in self.growths():
            growth, values, many = Growth(told, gains), values_of(told, gains), len(gains)
            for k in (0, 1, 2, 60, 61, 3938, 3999, 4000):
                self.kept(lambda: growth << k, shifted(values, k), many, seen) if k < 100 else self.check_far(growth, k, values)
                self.kept(lambda: growth >> k, shifted(values, -k), many, seen)
            for k in (0, 1, -3, 10 ** 30):
                self.kept(lambda: growth + k, [plus(value, k) for value in values], many, seen)
                self.kept(lambda: k - growth, [minus(k, value) for value in values], many, seen)
                self.kept(lambda: growth * k, [None if value is None else k * value for value in values], many, seen)
            for k in (0, 3, 5):
                self.kept(lambda: growth.raised(k), [None if value is None else max(k, value) for value in values], many, seen)
        self.assertGreater(seen["told", 4000], 30)

    def check_far(self, growth, k, values):
        shifted_growth = growth << k
        self.equal([shifted_growth[n] for n in range(1500)], values[k:k + 1500])
        self.assertLessEqual(len(shifted_growth.told), max(4000 - k, growth.period))

    def test_compared(self):
        for told, gains in self.growths():
            one, values = Growth(told, gains), values_of(told, gains)
            for at in (0, 1, 3997, 3998, 3999):
                if values[at] is not None:
                    changed = Growth([*told[:at], values[at] - 1, *told[at + 1:4000]], gains)
                    self.equal((one == changed, one <= changed, changed <= one), (False, False, True))
                    self.equal((one.first_above(changed), changed.first_above(one)), (at, None))
            self.equal((one == Growth(told, gains), one <= Growth(told, gains), one.first_above(one)), (True, True, None))
            for begin in (-9000, -7000, -3, 0):
                steep = Growth.ramp(2, begin)
                places = [n for n, value in enumerate(values) if value is None or begin + 2 * n > value]
                self.equal((steep.first_above(one), steep <= one), (places[0], False))

    def test_period_ahead_of_told(self):
        one, other = Growth([0] * 3940 + list(range(60)), [0] * 60), Growth([0] * 3941 + list(range(59)), [0] * 59)
        for sign in (operator.add, operator.sub, operator.or_, operator.and_):
            self.refused(TooMany, ["period", 60], sign, one, other)
            self.refused(TooMany, ["period", 60], sign, one + Growth.ramp(10 ** 30), other + Growth.ramp(10 ** 30))
        late = Growth([0] * 3999 + [5])
        self.refused(TooMany, ["told", 4000], lambda: late + Growth([0, 1], [0, 0]))
        self.equal(len((late + Growth([0, 1], [0, 0]) * 0).told), 4000)
        for value in ANYTHING:
            if not isinstance(value, Growth):
                self.refused(BadGrowth, ["other"], lambda: one | value)
                self.refused(BadGrowth, ["other"], lambda: one & value)

    def test_other_kinds_among_many(self):
        for many in MANY:
            for at in (0, 1, 2000, many - 1):
                for value in ANYTHING:
                    if value is not None and type(value) is not int:
                        told = told_of(many, 7)
                        told[at] = value
                        self.refused(BadGrowth, ["told"], Growth, told, [1])
                        self.refused(BadGrowth, ["told"], Growth, tuple(told), [1])

    def test_nothing_changes(self):
        told, gains = told_of(4000, 7, True), [7] * 6 + [8]
        one, other = Growth(told, gains), Growth(told_of(4000, 5), [1])
        before = (one.told, one.gains, other.told, other.gains)
        for work in (lambda: one & other, lambda: one | other, lambda: one + other, lambda: one - 3, lambda: one << 1,
                     lambda: one >> 1, lambda: -one, lambda: one * 0, lambda: one.raised(2)):
            outcome(work)
        self.equal((one <= other, one == other, one.first_above(other)), (False, False, 4))
        self.equal((one.told, one.gains, other.told, other.gains), before)
        self.equal((told, gains), (told_of(4000, 7, True), [7] * 6 + [8]))
        for growth in (one & other, one + 3, one << 2):
            self.assertIs(type(growth.told), tuple)
            self.assertIs(type(growth.gains), tuple)


def best_of(work, times=15):
    """The least time that some calls take."""
    found = []
    for _ in range(times):
        begun = time.perf_counter()
        work()
        found.append(time.perf_counter() - begun)
    return min(found)


def is_whole(value):
    return isinstance(value, int) and not isinstance(value, bool)


class Soon(Checks):
    def test_no_longer_than_asking_each_value(self):
        # What is held against the calls asks each value once by a function: that takes as long on each machine.
        told, others = told_of(4000, 7), told_of(4000, 5)
        one, other = Growth(told, [1]), Growth(others, [1])
        asked = best_of(lambda: [value is None or is_whole(value) for value in told])
        picked = best_of(lambda: [more(first, second) for first, second in zip(told, others)])
        for many in MANY:
            self.assertLess(best_of(lambda: outcome(lambda: Growth((told + [4])[:many], [1]))), asked)
        self.assertLess(best_of(lambda: one << 1), asked / 2)
        for work in (lambda: one & other, lambda: one | other, lambda: one + other):
            self.assertLess(best_of(work), picked / 2)
