"""headgap/growths.py: the signs, raised, and what compares."""

from headgap.errors import BadGrowth, BadNumber, TooMany
from headgap.growths import Growth
from headgap.rates import Rate
from tests.checks import ANYTHING, LINES, TWICE, WITH_SIGNS, Checks
from tests.plain_growths import normal, row, small_rows

NO_INTEGERS = [value for value in ANYTHING if type(value) is not int]
NO_GROWTHS = [value for value in ANYTHING if not isinstance(value, Growth)]
FAR = list(range(10 ** 30, 10 ** 30 + 12))
ROWS = small_rows()
ONES, OTHERS = ROWS[::9] + ROWS[-12:], ROWS[4::13] + ROWS[-9:]


def plus(one, other):
    return None if one is None or other is None else one + other


def minus(one, other):
    return None if one is None or other is None else one - other


def more(one, other):
    return max([value for value in (one, other) if value is not None], default=None)


def less(one, other):
    return min([value for value in (one, other) if value is not None], default=None)


def cycle(many, at=0, worth=1):
    """A growth with the least period many: worth at one rest, 0 at the others."""
    return Growth([worth if n == at else 0 for n in range(many)], [0] * many)


class ValueByValue(Checks):
    def check(self, result, values, far):
        """result has these first values and these far away, and is in the normal form."""
        self.equal([result[n] for n in range(len(values))], values)
        self.equal([result[n] for n in FAR], far)
        if len(result.told) < 25:
            self.equal((result.told, result.gains), normal(result.told, result.gains))

    def check_pairs(self, sign, work):
        for told, gains in ONES:
            for others, climbs in OTHERS:
                one, other = Growth(told, gains), Growth(others, climbs)
                values = [work(a, b) for a, b in zip(row(told, gains, 80), row(others, climbs, 80))]
                self.check(sign(one, other), values, [work(one[n], other[n]) for n in FAR])

    def test_sum(self):
        self.check_pairs(lambda one, other: one + other, plus)

    def test_difference(self):
        self.check_pairs(lambda one, other: one - other, minus)

    def test_greater(self):
        self.check_pairs(lambda one, other: one | other, more)

    def test_lesser(self):
        self.check_pairs(lambda one, other: one & other, less)

    def test_with_integers_on_both_sides(self):
        for told, gains in ONES:
            one, values = Growth(told, gains), row(told, gains, 40)
            far = [one[n] for n in FAR]
            for k in (0, 3, -10 ** 30):
                self.check(one + k, [plus(value, k) for value in values], [plus(value, k) for value in far])
                self.check(k + one, [plus(value, k) for value in values], [plus(value, k) for value in far])
                self.check(one - k, [minus(value, k) for value in values], [minus(value, k) for value in far])
                self.check(k - one, [minus(k, value) for value in values], [minus(k, value) for value in far])

    def test_products(self):
        for told, gains in ONES:
            one, values = Growth(told, gains), row(told, gains, 40)
            far = [one[n] for n in FAR]
            for k in (0, 1, 5, -3, 10 ** 30):
                times = [None if value is None else k * value for value in values]
                far_times = [None if value is None else k * value for value in far]
                self.check(one * k, times, far_times)
                self.check(k * one, times, far_times)
            self.equal(-one == one * -1, True)
            self.check(-one, [minus(0, value) for value in values], [minus(0, value) for value in far])

    def test_shifts(self):
        for told, gains in ONES:
            one, values = Growth(told, gains), row(told, gains, 80)
            for k in (0, 1, 2, 3, 7):
                self.check(one << k, values[k:], [one[n + k] for n in FAR])
                self.check(one >> k, [None] * k + values, [one[n - k] for n in FAR])

    def test_raised(self):
        for told, gains in ONES:
            one, values = Growth(told, gains), row(told, gains, 80)
            for k in (-5, 0, 2, 17):
                first = [None if value is None else max(value, k) for value in values]
                far = [None if one[n] is None else max(one[n], k) for n in FAR]
                self.check(one.raised(k), first, far)
                self.equal(one.raised(k=k) == one.raised(k), True)

    def test_sums_of_lists(self):
        self.equal(str(sum([TWICE, Growth.ramp(1, 5)])), "5 ; 3")

    def test_in_place(self):
        for change, told in (("+=", "1 ; 2"), ("-=", "-1 ; 2"), ("*=", "0 ; 2"), ("<<=", "2 ; 2"), (">>=", "- 0 ; 2")):
            names = {"held": TWICE, "first": TWICE}
            exec(f"held {change} 1", names)
            self.equal((str(names["held"]), str(names["first"])), (told, "0 ; 2"))
        for change, told in (("|=", "3 3 4 ; 2"), ("&=", "0 2 3 ; 0"), ("+=", "3 ; 2"), ("-=", "-3 ; 2")):
            names = {"held": TWICE, "other": Growth.constant(3)}
            exec(f"held {change} other", names)
            self.equal((str(names["held"]), str(names["other"])), (told, "3 ; 0"))


class Crossing(Checks):
    def test_late_and_just_told(self):
        for sign, one, other in (
                (lambda a, b: a | b, Growth.ramp(1), Growth.constant(3999)),
                (lambda a, b: a & b, Growth.ramp(-1), Growth.constant(-3999)),
                (lambda a, b: a.raised(b[0]), Growth.ramp(1), Growth.constant(3999))):
            result = sign(one, other)
            self.equal(len(result.told), 4000)
            self.equal(abs(result[3998]), 3999)
            self.equal((abs(result[4000]), abs(result[10 ** 30])), (4000, 10 ** 30))

    def test_one_told_too_many(self):
        self.refused(TooMany, ["told", 4000], lambda: Growth.ramp(1) | Growth.constant(4000))
        self.refused(TooMany, ["told", 4000], lambda: Growth.constant(4000) | Growth.ramp(1))
        self.refused(TooMany, ["told", 4000], lambda: Growth.ramp(-1) & Growth.constant(-4000))
        self.refused(TooMany, ["told", 4000], Growth.ramp(1).raised, 4000)

    def test_very_late(self):
        for late in (4001, 8000, 12345, 10 ** 24, 10 ** 40):
            one, other = Growth.ramp(2), Growth.ramp(1, late)
            self.refused(TooMany, ["told", 4000], lambda: one | other)
            self.refused(TooMany, ["told", 4000], lambda: one & other)
            self.refused(TooMany, ["told", 4000], Growth.ramp(1, -2 * late).raised, -5)
            self.equal((one | other - late) == one, True)

    def test_late_at_one_rest_alone(self):
        for many in (2, 7, 60):
            late = Growth([0] * many, [many] + [0] * (many - 1))
            self.refused(TooMany, ["told", 4000], lambda: late | Growth.constant(5000))
            self.refused(TooMany, ["told", 4000], lambda: late | Growth.constant(10 ** 24))
            kept = late | Growth.constant(60)
            self.equal((kept[60 // many * many], kept[10 ** 3 * many]), (60, 10 ** 3 * many))

    def test_crossing_with_a_long_common_period(self):
        one = Growth(list(range(59)), [59] * 58 + [60])
        for late in (10, 300, 3000):
            other = Growth([late] * 60, [0] * 60)
            result = one | other
            for n in range(0, 6000, 7):
                self.equal(result[n], max(one[n], late))

    def test_the_period_comes_first(self):
        one, other = cycle(8) + Growth.ramp(2), cycle(9) + Growth.ramp(2, 10 ** 24)
        self.refused(TooMany, ["told", 4000], lambda: one | Growth.ramp(1, 10 ** 24))
        self.refused(TooMany, ["told", 4000], lambda: one | other - Growth.ramp(1))
        self.refused(TooMany, ["period", 60], lambda: cycle(8) | cycle(9))
        alternating = Growth([0] * 8, [9, 0, 9, 0, 9, 0, 9, 0]) + cycle(8, 1, 50)
        self.refused(TooMany, ["period", 60], lambda: alternating | cycle(9, 0, 10 ** 24))


class TheBounds(Checks):
    def test_periods(self):
        self.equal((cycle(3) + cycle(20)).period, 60)
        self.equal((cycle(12) + cycle(30)).period, 60)
        self.refused(TooMany, ["period", 60], lambda: cycle(8) + cycle(9))
        self.refused(TooMany, ["period", 60], lambda: cycle(8) - cycle(9))
        self.refused(TooMany, ["period", 60], lambda: cycle(8) | cycle(9))
        self.refused(TooMany, ["period", 60], lambda: cycle(8, 0, -1) & cycle(9, 0, -1))
        self.refused(TooMany, ["period", 60], lambda: cycle(61 - 1) + cycle(59))
        self.equal(cycle(60).period, 60)

    def test_the_normal_form_counts(self):
        one, other = cycle(60), cycle(59)
        self.equal((one + 1 | other & Growth.constant(0)).period, 60)
        self.equal((one | other - 2 == one, one & other + 2 == one, other | one - 2 == other), (True, True, True))
        self.equal(((cycle(12) + cycle(20)) - cycle(20)).period, 12)
        none_at_odd, none_at_even = Growth([0, None]), Growth([None, 0])
        self.equal(str((none_at_odd + cycle(60, 2)) + (none_at_even + cycle(59))), "- ; 0")

    def test_told_ones(self):
        self.equal(len((TWICE >> 3999).told), 4000)
        self.refused(TooMany, ["told", 4000], lambda: TWICE >> 4000)
        self.equal((Growth.none() >> 4000 == Growth.none(), (TWICE << 4000)[0]), (True, 8000))
        self.refused(TooMany, ["told", 4000], lambda: (Growth([1] * 50 + [2]) >> 3950))
        self.equal(len((Growth([1] * 50 + [2]) >> 3949).told), 4000)
        self.refused(TooMany, ["told", 4000], lambda: (Growth([0] * 3999 + [5]) + cycle(2)))
        self.equal(len((Growth([0] * 3998 + [5]) + cycle(2)).told), 4000)

    def test_shifts_there_and_back(self):
        growth = Growth([4, None, 7, 1, 2], [3, 0])
        for k in (0, 1, 2, 5, 3990):
            self.equal((growth >> k) << k == growth, True)


class Refused(Checks):
    def test_no_growths(self):
        for value in NO_GROWTHS:
            for work in (lambda: TWICE | value, lambda: TWICE & value, lambda: value | TWICE, lambda: value & TWICE,
                         lambda: TWICE <= value, lambda: TWICE.first_above(value)):
                if not isinstance(value, WITH_SIGNS):
                    self.refused(BadGrowth, ["other"], work)
            if type(value) is not int:
                self.refused(BadGrowth, ["other"], lambda: TWICE + value)
                self.refused(BadGrowth, ["other"], lambda: TWICE - value)
            if type(value) is not int and not isinstance(value, WITH_SIGNS):
                self.refused(BadGrowth, ["other"], lambda: value + TWICE)
                self.refused(BadGrowth, ["other"], lambda: value - TWICE)
        for value in (LINES, Rate(1)):
            for work in (lambda: TWICE | value, lambda: TWICE & value, lambda: TWICE <= value):
                self.refused(BadGrowth, ["other"], work)
        self.refused(BadGrowth, ["other"], lambda: TWICE.first_above(other=5))

    def test_no_numbers(self):
        for value in NO_INTEGERS:
            self.refused(BadNumber, [value], lambda: TWICE * value)
            if not isinstance(value, WITH_SIGNS):
                self.refused(BadNumber, [value], lambda: value * TWICE)
            self.refused(BadNumber, [value], TWICE.raised, value)

    def test_no_shifts(self):
        for value in [*NO_INTEGERS, -1, -10 ** 30, 4001, 10 ** 30]:
            self.refused(BadNumber, [value], lambda: TWICE << value)
            self.refused(BadNumber, [value], lambda: TWICE >> value)

    def test_a_refused_sign_changes_nothing(self):
        one, other = cycle(8), cycle(9)
        held = one
        for work in (lambda: one + other, lambda: one | 5, lambda: one * True, lambda: one >> 4001):
            with self.assertRaises(ValueError):
                work()
        self.equal((one == cycle(8), other == cycle(9), held is one), (True, True, True))
        names = {"held": one}
        with self.assertRaises(TooMany):
            exec("held += other", names | {"other": other}, names)
        self.assertIs(names["held"], one)


class Comparing(Checks):
    def test_small_rows(self):
        for told, gains in ONES:
            for others, climbs in OTHERS:
                one, other = Growth(told, gains), Growth(others, climbs)
                above = [n for n, (a, b) in enumerate(zip(row(told, gains, 200), row(others, climbs, 200)))
                         if a is not None and (b is None or a > b)]
                self.equal(one.first_above(other), above[0] if above else None)
                self.equal(one <= other, not above)

    def test_late(self):
        for late in (3, 4000, 10 ** 24, 10 ** 50):
            self.equal(Growth.ramp(2).first_above(Growth.ramp(1, late)), late + 1)
            self.equal(Growth.ramp(2) <= Growth.ramp(1, late), False)
            self.equal(Growth.ramp(1) <= Growth.ramp(1, late), True)
            self.equal(Growth.ramp(3).first_above(other=Growth.constant(late)), late // 3 + 1)

    def test_late_at_one_rest(self):
        slow = Growth([0] * 60, [0] * 59 + [1])
        self.equal(slow.first_above(Growth.constant(10 ** 24)), 60 * (10 ** 24 + 1) + 59)
        many = slow + Growth([0] * 59 + [0], [0] * 60)
        other = Growth([10 ** 24] * 59, [0] * 59) + cycle(59) * 5
        place = many.first_above(other)
        self.equal((many[place] > other[place], place % 60), (True, 59))
        self.equal([n for n in range(place - 5000, place) if many[n] > other[n]], [])

    def test_the_least_of_several_places(self):
        one = Growth([0, 0, 0], [3, 30, 300])
        self.equal(one.first_above(Growth.constant(10 ** 6)), 3 * (10 ** 6 // 300 + 1) + 2)
        self.equal(Growth([0, 0], [1, 1]).first_above(Growth([50, 10], [0, 0])), 23)

    def test_none(self):
        self.equal(Growth([1]).first_above(Growth([5, 5, 5, None, 5])), 3)
        self.equal(Growth([None, 1]).first_above(Growth([5, 5, None])), 2)
        self.equal((Growth.none() <= Growth.none(), Growth.none() <= TWICE, TWICE <= Growth.none()), (True, True, False))
        self.equal(Growth([None, 1], [0, 0]) <= Growth([None, 1], [0, 0]), True)
        self.equal(Growth([1, 1, 1], [0, 0, 0]).first_above(Growth([7, 7, None, 7, 7, 7], [0, 0, 0])), 2)
        self.equal(Growth([None] * 9 + [1]).first_above(Growth([9] * 30 + [None])), 30)
