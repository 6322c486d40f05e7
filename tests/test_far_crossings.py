"""headgap/growths.py: growths that cross far off, where |, & and raised tell or refuse them, and how soon."""

import random
import time
from math import lcm

from headgap.errors import TooMany
from headgap.growths import Growth
from tests.checks import Checks
from tests.plain_growths import row

FIRST = Growth([0, None, 3, 1, 2, 7], [1, 2, 3, 4, 5, 6])
FAR = Growth([10 ** 30, 10 ** 30, 5, 1, 7], [0, 1, 2, 3, 4])
NEAR = Growth([100, 100, 5, 1, 7], [0, 1, 2, 3, 4])
CLIMB = Growth.ramp(2) - Growth.ramp(1)


def cycle(many, at=0, worth=1):
    """A growth with the least period many: worth at one rest, 0 at the others."""
    return Growth([worth if n == at else 0 for n in range(many)], [0] * many)


def more(one, other):
    return max([value for value in (one, other) if value is not None], default=None)


def less(one, other):
    return min([value for value in (one, other) if value is not None], default=None)


def begin_of(values, many):
    """From where on values go on by so many gains that are the same at each rest; all of them if the last ones do not."""
    gains = {}
    for n in reversed(range(len(values) - many)):
        value, later = values[n], values[n + many]
        if (value is None) != (later is None):
            return n + 1
        gain = gains.setdefault(n % many, 0 if value is None else later - value)
        if value is not None and later - value != gain:
            return n + 1
    return 0


def outcome_of(values, common):
    """What the normal form of these values is, or which error it is: they surely go on with the common period."""
    begin = begin_of(values, common)
    assert begin < len(values) - 3 * common
    for many in range(1, common + 1):
        if common % many == 0 and begin_of(values, many) <= begin:
            break
    if many > 60:
        return "period", 60
    if begin + many > 4000:
        return "told", 4000
    told = values[:begin + many]
    return tuple(told), tuple(
        0 if told[n] is None else values[n + many] - told[n]
        for n in sorted(range(begin, begin + many), key=lambda n: n % many))


def is_settled(values, one, other, common, best):
    """Whether two growths cross no more behind these values."""
    for n in range(len(values) - common, len(values)):
        far = best(one[n + 10 ** 12 * common], other[n + 10 ** 12 * common])
        if values[n] is not None and values[n] + 10 ** 12 * (values[n] - values[n - common]) != far:
            return False
    return True


def outcome(work):
    try:
        growth = work()
    except TooMany as error:
        return error.what, error.most
    return growth.told, growth.gains


class Far(Checks):
    def test_the_errors(self):
        self.refused(TooMany, ["told", 4000], lambda: Growth.ramp(1) | Growth.constant(10 ** 30))
        self.refused(TooMany, ["told", 4000], lambda: Growth.constant(10 ** 30) | Growth.ramp(1))
        self.refused(TooMany, ["told", 4000], lambda: Growth.ramp(-1) & Growth.constant(-10 ** 30))
        self.refused(TooMany, ["told", 4000], lambda: FIRST | FAR)
        self.refused(TooMany, ["told", 4000], lambda: -FIRST & -FAR)
        self.refused(TooMany, ["told", 4000], CLIMB.raised, 10 ** 24)
        self.refused(TooMany, ["told", 4000], (FIRST - 7).raised, 10 ** 24)

    def test_what_is_told(self):
        for near, sign in ((FIRST | NEAR, 1), (-FIRST & -NEAR, -1)):
            self.equal([near[n] for n in range(700)],
                       [sign * more(a, b) for a, b in zip(row(FIRST.told, FIRST.gains, 700), row(NEAR.told, NEAR.gains, 700))])
            self.equal((len(near.told), near.period), (601, 30))
        self.equal(FIRST.first_above(FAR), 8)

    def test_as_told_by_the_values(self):
        chance = random.Random(11)
        seen = {}
        for _ in range(120):
            one, other = (self.some(chance) for _ in range(2))
            other = other + chance.choice((0, 50, 2900, 3900, 4000, 7990)) * chance.choice((1, 1, -1))
            common = lcm(one.period, other.period)
            rows = row(one.told, one.gains, 9000), row(other.told, other.gains, 9000)
            for work, best in ((lambda: one | other, more), (lambda: one & other, less)):
                values = [best(a, b) for a, b in zip(*rows)]
                if begin_of(values, common) < 8800 and is_settled(values, one, other, common, best):
                    told = outcome(work)
                    self.equal(told, outcome_of(values, common))
                    kind = told[0] if isinstance(told[0], str) else len(told[0]) > 1000
                    seen[kind] = seen.get(kind, 0) + 1
        self.assertTrue(all(seen.get(kind, 0) > 10 for kind in ("told", True, False)), seen)

    def some(self, chance):
        """A growth of few told ones that grows slowly."""
        many = chance.choice((1, 1, 2, 2, 3, 4))
        told = [chance.choice((None, 0, 1, 5, 9)) for _ in range(many + chance.randint(0, 3))]
        return Growth(told, [chance.choice((0, many, many, 2 * many, 1)) for _ in range(many)])


class JustTold(Checks):
    def test_at_each_place(self):
        for begin in range(3990, 4000):
            self.equal(len((Growth.ramp(1) | Growth.constant(begin)).told), begin + 1)
            self.equal(len((Growth.ramp(-1) & Growth.constant(-begin)).told), begin + 1)
            self.equal(len(Growth.ramp(1).raised(begin).told), begin + 1)
            self.equal((Growth.ramp(1) | Growth.constant(begin)).stretch(begin - 1, begin + 3),
                       (begin, begin, begin + 1, begin + 2))
        for begin in range(4000, 4010):
            self.refused(TooMany, ["told", 4000], lambda: Growth.ramp(1) | Growth.constant(begin))
            self.refused(TooMany, ["told", 4000], lambda: Growth.ramp(-1) & Growth.constant(-begin))
            self.refused(TooMany, ["told", 4000], Growth.ramp(1).raised, begin)

    def test_at_one_rest_alone(self):
        # Of seven rests the third one grows by 7 each time; the others stay below from the beginning.
        late = Growth([0] * 7, [0, 0, 7, 0, 0, 0, 0])
        # At 3985 it is 3983, at 3992 it is 3990.
        growth = late | Growth.constant(3984)
        self.equal((len(growth.told), growth.period), (3993, 7))
        self.equal(growth.stretch(3984, 3993), (3984,) * 8 + (3990,))
        for k, told in ((3990, 3993), (3991, 4000), (3997, 4000)):
            self.equal((len((late | Growth.constant(k)).told), len(late.raised(k).told)), (told, told))
        self.refused(TooMany, ["told", 4000], lambda: late | Growth.constant(3998))
        self.refused(TooMany, ["told", 4000], late.raised, 3998)
        for shift, told in ((7, 4000), (8, None)):
            if told is None:
                self.refused(TooMany, ["told", 4000], lambda: (late >> shift) | Growth.constant(3990))
                self.refused(TooMany, ["told", 4000], lambda: -(late >> shift) & Growth.constant(-3990))
                self.refused(TooMany, ["told", 4000], lambda: (late >> shift).raised(3990))
            else:
                self.equal(len(((late >> shift) | Growth.constant(3990)).told), told)
                self.equal(len((-(late >> shift) & Growth.constant(-3990)).told), told)
                self.equal(len((late >> shift).raised(3990).told), told)

    def test_with_none_at_some_rests(self):
        odd = Growth([None, 0], [0, 2])
        # None plays no part for |, stays for raised.
        self.equal(str(odd | Growth.constant(4)), "4 4 4 4 4 4 ; 0 2")
        self.equal(str(odd.raised(4)), "- 4 - 4 - 4 ; 0 2")
        self.equal(((odd | Growth.constant(3998)).period, len((odd | Growth.constant(3998)).told)), (2, 4000))
        self.refused(TooMany, ["told", 4000], lambda: odd | Growth.constant(3999))
        self.equal((len(odd.raised(3998).told), odd.raised(3998).stretch(3996, 4002)),
                   (4000, (None, 3998, None, 3998, None, 4000)))
        self.refused(TooMany, ["told", 4000], odd.raised, 3999)
        even = Growth([0, None], [2, 0])
        self.equal((len(even.raised(3998).told), len(even.raised(3996).told)), (3999, 3997))
        self.refused(TooMany, ["told", 4000], even.raised, 4000)
        self.equal(len((even | odd + 3000).told), 2)
        self.equal((even | odd).stretch(0, 5), (0, 0, 2, 2, 4))

    def test_a_begin_that_is_late_already(self):
        late = Growth([0] * 3000 + [5, 0], [1])
        self.equal(len((late | Growth.constant(900)).told), 3902)
        self.refused(TooMany, ["told", 4000], lambda: late | Growth.constant(1000))
        self.equal(len((late | Growth.constant(0)).told), 3002)
        full = Growth([0] * 3999 + [5])
        for growth in (full | Growth.constant(-1), full.raised(-1), full & Growth.constant(7), full | Growth.none(),
                       Growth.none() | full):
            self.equal(growth == full, True)
        self.equal(len((full | Growth([6, 0], [0, 0])).told), 4000)
        self.refused(TooMany, ["told", 4000], lambda: full | Growth([6, 6, 0], [0, 0, 0]))
        self.equal((full | Growth([1, 5])) == Growth([1, 5]), True)
        self.equal(full.raised(5) == Growth.constant(5), True)


class Periods(Checks):
    def test_sixty_and_more(self):
        sixty, eight = cycle(12) + cycle(20), cycle(8)
        far = Growth.constant(10 ** 30)
        self.equal((sixty.period, (sixty | sixty - 1).period), (60, 60))
        self.refused(TooMany, ["told", 4000], lambda: (sixty + Growth.ramp(1)) | far)
        self.refused(TooMany, ["told", 4000], lambda: (sixty + Growth.ramp(1)).raised(10 ** 30))
        self.refused(TooMany, ["period", 60], lambda: (eight + Growth.ramp(1)) | (cycle(9) + Growth.ramp(1)))

    def test_period_ahead_of_told(self):
        # At even places one wins, at odd ones the other, each with a period of its own; both are far behind at first.
        one = Growth([0, 0], [4, 0]) + cycle(60) + 0
        other = Growth([10 ** 30, 0], [2, 2]) + cycle(14, 1)
        self.refused(TooMany, ["period", 60], lambda: one | other)
        self.refused(TooMany, ["period", 60], lambda: -one & -other)
        self.refused(TooMany, ["told", 4000], lambda: one | other - cycle(14, 1))
        self.refused(TooMany, ["told", 4000], lambda: -one & cycle(14, 1) - other)

    def test_the_winner_alone_counts(self):
        # The period of what is left behind plays no part, however late that is.
        self.refused(TooMany, ["told", 4000], lambda: Growth.ramp(1) + cycle(59) | cycle(60, 3, 10 ** 30))
        self.equal((Growth.ramp(1) + cycle(59) | cycle(60, 3, 40)).period, 59)
        self.refused(TooMany, ["told", 4000], lambda: Growth.ramp(1) + cycle(59) | cycle(60, 3, 4000))
        self.refused(TooMany, ["period", 60], lambda: cycle(59) | cycle(60, 3, 10 ** 30))


class Soon(Checks):
    def check(self, *works, calls=200):
        for work in works:
            begun = time.perf_counter()
            for _ in range(calls):
                try:
                    work()
                    self.fail("this is told")
                except TooMany:
                    pass
            self.assertLess(time.perf_counter() - begun, 1)

    def test_far_crossings(self):
        self.check(lambda: Growth.ramp(1) | Growth.constant(10 ** 30), lambda: Growth.ramp(-1) & Growth.constant(-10 ** 30),
                   lambda: FIRST | FAR, lambda: FAR | FIRST, lambda: -FIRST & -FAR, lambda: CLIMB.raised(10 ** 24),
                   lambda: FIRST.raised(10 ** 24))

    def test_no_longer_than_what_is_told(self):
        begun = time.perf_counter()
        for _ in range(50):
            FIRST | NEAR
        told = time.perf_counter() - begun
        for work in (lambda: FIRST | FAR, lambda: Growth.ramp(1) | Growth.constant(4000), lambda: CLIMB.raised(10 ** 24)):
            begun = time.perf_counter()
            for _ in range(50):
                self.refused(TooMany, ["told", 4000], work)
            self.assertLess(time.perf_counter() - begun, 2 * told)

    def test_just_not_told(self):
        late, odd = Growth([0] * 7, [0, 0, 7, 0, 0, 0, 0]), Growth([None, 0], [0, 2])
        self.check(lambda: Growth.ramp(1) | Growth.constant(4000), lambda: Growth.ramp(1).raised(4000),
                   lambda: late | Growth.constant(3998), lambda: late.raised(3998),
                   lambda: odd | Growth.constant(3999), lambda: odd.raised(3999))

    def test_periods_with_a_far_crossing(self):
        one, other = Growth([0, 0], [4, 0]) + cycle(60), Growth([10 ** 30, 0], [2, 2]) + cycle(14, 1)
        last, sixty = cycle(59) + Growth.ramp(1), cycle(60, 3, 10 ** 30)
        flat = cycle(59)
        self.check(lambda: one | other, lambda: -one & -other)
        # These have a common period of 3,540 places, which all must be looked at.
        self.check(lambda: last | sixty, lambda: flat | sixty, calls=50)
