"""headgap/growths.py: the normal form, values, properties, and growths that are made by name."""

import unittest

from headgap.growths import Growth
from headgap.errors import BadGrowth, BadNumber, TooMany
from tests.checks import ANYTHING, LINES, TWICE, Checks, same
from tests.plain_growths import normal, plain, row, small_rows

NO_INTEGERS = [value for value in ANYTHING if type(value) is not int]
NO_COUNTS = [value for value in ANYTHING if type(value) is not int or value < 0]


class NormalForm(Checks):
    def test_all_small_rows(self):
        for told, gains in small_rows():
            growth = Growth(told, gains)
            self.equal((growth.told, growth.gains), normal(told, gains))
            self.equal([growth[n] for n in range(40)], row(told, gains, 40))

    def test_lists_and_tuples_and_names(self):
        for growth in (Growth([3, 5, 7, 9], (4, 4)), Growth((3, 5), [2]), Growth(gains=[4, 4], told=(3, 5))):
            self.equal((growth.told, growth.gains), ((3,), (2,)))

    def test_gains_are_0_without_others(self):
        self.equal((Growth([1, 2]).told, Growth([1, 2]).gains), ((1, 2), (0,)))

    def test_gains_of_rests_without_values(self):
        growth = Growth([None, 0, None, 4], [5, 8, 6, 8])
        self.equal((growth.told, growth.gains), ((None, 0), (0, 4)))
        self.equal((Growth([None, None], [3, 4]).told, Growth([None, None], [3, 4]).gains), ((None,), (0,)))
        self.equal(Growth([7, None, None], [3, 4]).told, (7, None))

    def test_a_rest_that_is_none_at_first(self):
        self.equal(Growth([None, 5, 6], [1]).told, (None, 5))
        self.equal(Growth([5, None, 6], [1]).told, (5, None, 6))

    def test_sixty_gains(self):
        gains = list(range(60))
        self.equal(Growth([0] * 60, gains).gains, tuple(gains))
        self.equal(Growth([0] * 60, tuple(gains)).period, 60)
        self.refused(BadGrowth, ["gains"], Growth, [0] * 61, [0] * 61)
        self.equal(Growth(list(range(60)), [60] * 60).gains, (1,))

    def test_as_many_told_ones_as_gains(self):
        self.refused(BadGrowth, ["told"], Growth, [1], [1, 2])
        self.refused(BadGrowth, ["told"], Growth, [1], [0, 0])
        self.refused(BadGrowth, ["told"], Growth, [], [0])
        self.equal(Growth([1, 1], [0, 0]).told, (1,))

    def test_four_thousand_told_ones(self):
        growth = Growth([0] * 3999 + [1])
        self.equal((len(growth.told), growth[3998], growth[10 ** 40]), (4000, 0, 1))
        self.refused(TooMany, ["told", 4000], Growth, [0] * 4000 + [1])
        self.equal(Growth(list(range(5000)), [1]).told, (0,))
        self.refused(TooMany, ["told", 4000], Growth, [9] + list(range(5000)) + [9], [1])

    def test_kinds_of_the_attributes(self):
        growth = Growth([1, None], [1, 2])
        self.equal((growth.told, growth.gains, growth.period), ((1, None), (1, 0), 2))
        self.assertEqual(list(vars(growth)), ["told", "gains"])


class WrongRows(Checks):
    def test_gains_of_other_kinds(self):
        for gains in ANYTHING:
            if not (isinstance(gains, (list, tuple)) and gains and all(type(gain) is int for gain in gains)):
                self.refused(BadGrowth, ["gains"], Growth, [1, 2], gains)
        for gain in NO_INTEGERS:
            self.refused(BadGrowth, ["gains"], Growth, [1, 2], [0, gain])

    def test_told_ones_of_other_kinds(self):
        for told in ANYTHING:
            if not (isinstance(told, (list, tuple)) and told and all(type(value) is int for value in told)):
                self.refused(BadGrowth, ["told"], Growth, told)
        for value in NO_INTEGERS:
            if value is not None:
                self.refused(BadGrowth, ["told"], Growth, [0, value])

    def test_several_wrong_ones(self):
        self.refused(BadGrowth, ["gains"], Growth, [True], [True])
        self.refused(BadGrowth, ["gains"], Growth, None, ())
        self.refused(BadGrowth, ["told"], Growth, [0] * 4000 + [1, True])

    def test_arguments_stay_and_may_be_changed(self):
        told, gains = [0, None, 2, 5], [2, 2]
        growth = Growth(told, gains)
        self.equal((told, gains), ([0, None, 2, 5], [2, 2]))
        told[0], gains[0] = 9, 9
        told.append(1)
        self.equal((growth[0], growth[4], growth.gains), (0, 4, (2, 2)))
        self.equal((growth.told, str(growth)), ((0, None, 2, 5), "0 - 2 5 ; 2 2"))


class Values(Checks):
    def test_by_index_and_by_call(self):
        for told, gains in small_rows()[::7]:
            growth = Growth(told, gains)
            for n in (0, 1, 2, 3, 17, 58, 59, 60, 61, 200):
                self.equal(growth[n], plain(told, gains, n))
                self.equal(growth(n), growth[n])
                self.equal(growth(n=n), growth[n])

    def test_far_away(self):
        growth = Growth([4, None, 1, 7], [3, 0, -2])
        for far in (10 ** 30, 10 ** 60):
            for n in range(far, far + 6):
                value, gain = ((4, 3), (None, 0), (1, -2))[n % 3]
                self.equal(growth[n], None if value is None else value + n // 3 * gain)
        self.equal(Growth.ramp(10 ** 30, -1)[10 ** 30], 10 ** 60 - 1)

    def test_no_such_place(self):
        for n in NO_COUNTS:
            self.refused(BadNumber, [n], TWICE, n)
            self.refused(BadNumber, [n], lambda: TWICE[n])
        self.refused(BadNumber, [-10 ** 30], TWICE, -10 ** 30)

    def test_stretch(self):
        growth = Growth([None, 1], [0, 1])
        self.equal(growth.stretch(0, 6), (None, 1, None, 2, None, 3))
        self.equal(growth.stretch(a=3, b=4), (2,))
        self.equal((growth.stretch(3, 3), growth.stretch(4, 3), growth.stretch(10 ** 30, 0)), ((), (), ()))
        self.equal(TWICE.stretch(10 ** 30, 10 ** 30 + 2), (2 * 10 ** 30, 2 * 10 ** 30 + 2))
        self.equal(TWICE.stretch(5, 4005), tuple(range(10, 8010, 2)))
        self.refused(TooMany, ["told", 4000], TWICE.stretch, 5, 4006)
        self.refused(TooMany, ["told", 4000], TWICE.stretch, 0, 10 ** 60)

    def test_stretch_of_no_places(self):
        for value in NO_COUNTS:
            self.refused(BadNumber, [value], TWICE.stretch, value, 1)
            self.refused(BadNumber, [value], TWICE.stretch, 1, value)
            self.refused(BadNumber, [value], TWICE.stretch, value, "wrong as well")
        self.refused(BadNumber, [True], TWICE.stretch, True, False)

    def test_in(self):
        growth = Growth([None, 1], [0, 1])
        for n in (0, 2, 10 ** 30):
            self.equal((n in growth, n + 1 in growth), (False, True))
        for value in NO_COUNTS:
            self.equal(value in TWICE, False)
        self.equal((0 in TWICE, 10 ** 60 in TWICE, 0 in Growth.none()), (True, True, False))

    def test_no_iteration(self):
        for work in (lambda: iter(TWICE), lambda: list(TWICE), lambda: [*TWICE]):
            with self.assertRaises(TypeError):
                work()


class Properties(Checks):
    def test_small_rows(self):
        for told, gains in small_rows():
            growth = Growth(told, gains)
            values = row(told, gains, 130)
            numbers = [value for value in values if value is not None]
            rises = [values[n + 60] - values[n] for n in range(10, 70) if values[n] is not None]
            endless = any(rise > 0 for rise in rises)
            self.equal(growth.is_endless, endless)
            self.equal(growth.greatest, max(numbers) if numbers and not endless else None)
            if rises:
                a, b = growth.slope
                self.assertEqual(60 * a, max(rises) * b)
                self.assertFalse(any(a % k == 0 and b % k == 0 for k in range(2, b + 1)))
            else:
                self.equal(growth.slope, None)

    def test_slopes(self):
        self.equal(Growth([0, 0, 0, 0], [6, -2, 0, 2]).slope, (3, 2))
        self.equal(Growth([0, 0, 0, 0], [-6, -2, -4, -2]).slope, (-1, 2))
        self.equal(Growth([0, 1, 2], [0, 0, 0]).slope, (0, 1))
        self.equal(Growth([None, 1], [9, -3]).slope, (-3, 2))
        self.equal((Growth.none().slope, Growth([5, None]).slope), (None, None))

    def test_greatest(self):
        self.equal(Growth([3, 9, 4], [-1]).greatest, 9)
        self.equal((Growth.none().greatest, Growth([5, None]).greatest), (None, 5))
        self.equal(Growth([-5], [-1]).greatest, -5)
        self.equal(Growth([10 ** 31, 0, 1], [0, 1]).greatest, None)


class MadeByName(Checks):
    def test_constant(self):
        for k in (0, -3, 10 ** 60):
            self.equal((Growth.constant(k).told, Growth.constant(k=k).gains), ((k,), (0,)))
        for k in NO_INTEGERS:
            self.refused(BadNumber, [k], Growth.constant, k)

    def test_ramp(self):
        self.equal((Growth.ramp(2).told, Growth.ramp(2).gains), ((0,), (2,)))
        self.equal(Growth.ramp(begin=4, gain=-3).stretch(0, 3), (4, 1, -2))
        for value in NO_INTEGERS:
            self.refused(BadNumber, [value], Growth.ramp, value)
            self.refused(BadNumber, [value], Growth.ramp, 1, value)
            self.refused(BadNumber, [value], Growth.ramp, value, "wrong as well")

    def test_none(self):
        self.equal((Growth.none().told, Growth.none().gains), ((None,), (0,)))


class Equality(Checks):
    def test_equal_values(self):
        rows = small_rows()
        growths = [(Growth(told, gains), row(told, gains, 24)) for told, gains in rows[::5]]
        for one, values in growths:
            for other, others in growths:
                self.equal(one == other, values == others)
                self.equal(one != other, values != others)

    def test_nothing_else(self):
        for value in ANYTHING:
            if not isinstance(value, Growth):
                self.equal((TWICE == value, value == TWICE, TWICE != value), (False, False, True))
        self.assertFalse(Growth.constant(1) == 1 or Growth.constant(1) == (1,) or TWICE == "0 ; 2")

    def test_same_tells_kinds(self):
        self.assertFalse(same(True, 1) or same((1,), [1]) or same((1, (True,)), (1, (1,))))
        self.assertTrue(same((1, [LINES]), (1, [LINES])))


if __name__ == "__main__":
    unittest.main()
