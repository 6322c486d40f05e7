"""headgap/rates.py: Rate."""

import operator
from fractions import Fraction
from itertools import product

from headgap.errors import BadNumber, BadText
from headgap.rates import Rate
from tests.checks import ANYTHING, LINES, TWICE, WITH_SIGNS, Checks

NO_INTEGERS = [value for value in ANYTHING if type(value) is not int]
NO_RATES = [value for value in NO_INTEGERS if not isinstance(value, Rate)]
PARTS = [(0, 1), (1, 1), (-1, 1), (3, 2), (-3, 2), (6, 4), (1, 3), (2, 3), (-7, 3), (5, 1), (10 ** 30, 7),
         (-10 ** 60, 10 ** 59 + 3), (10 ** 70, 10 ** 69), (10 ** 30 + 1, 10 ** 30)]
INTEGERS = (0, 1, -1, 2, 7, 10 ** 30, -10 ** 65)


class Made(Checks):
    def test_least_terms(self):
        for upper, lower in PARTS:
            rate, held = Rate(upper, lower), Fraction(upper, lower)
            self.equal((rate.upper, rate.lower), (held.numerator, held.denominator))
        self.equal((Rate(0, 9).upper, Rate(0, 9).lower, Rate(-4, 6).upper, Rate(-4, 6).lower), (0, 1, -2, 3))
        self.equal((Rate(5).upper, Rate(5).lower), (5, 1))

    def test_by_name(self):
        rate = Rate(lower=4, upper=6)
        self.equal((rate.upper, rate.lower), (3, 2))

    def test_wrong_values(self):
        for value in NO_INTEGERS:
            self.refused(BadNumber, [value], Rate, value)
            self.refused(BadNumber, [value], Rate, value, 0)
            self.refused(BadNumber, [value], Rate, 1, value)
        for value in (0, -1, -10 ** 30):
            self.refused(BadNumber, [value], Rate, 1, value)
            self.refused(BadNumber, [value], Rate, 0, value)

    def test_true_also_for_nought(self):
        self.equal((bool(Rate(0)), bool(Rate(1, 2))), (True, True))


class Compared(Checks):
    def test_with_rates(self):
        for one, other in product(PARTS, repeat=2):
            a, b, c, d = Rate(*one), Rate(*other), Fraction(*one), Fraction(*other)
            self.equal((a == b, a != b, a < b, a <= b, a > b, a >= b), (c == d, c != d, c < d, c <= d, c > d, c >= d))

    def test_with_integers(self):
        for one, k in product(PARTS, INTEGERS):
            a, c = Rate(*one), Fraction(*one)
            self.equal((a == k, a != k, a < k, a <= k, a > k, a >= k), (c == k, c != k, c < k, c <= k, c > k, c >= k))
        self.equal((Rate(6, 2) == 3, Rate(7, 2) == 3, Rate(3, 2) == 3), (True, False, False))

    def test_equals_nothing_else(self):
        for value in NO_RATES:
            for rate in (Rate(1), Rate(0), Rate(3, 2)):
                self.equal((rate == value, rate != value), (False, True))
        self.equal((Rate(1) == True, Rate(0) == False), (False, False))  # noqa: E712

    def test_wrong_operands(self):
        for sign in (operator.lt, operator.le, operator.gt, operator.ge):
            for value in NO_RATES:
                self.refused(BadNumber, [value], sign, Rate(3, 2), value)
                self.refused(BadNumber, [value], sign, Rate(1), value)


class Sums(Checks):
    def check(self, result, told):
        self.assertIs(type(result), Rate)
        self.equal((result.upper, result.lower), (told.numerator, told.denominator))

    def test_with_rates(self):
        for one, other in product(PARTS, repeat=2):
            self.check(Rate(*one) + Rate(*other), Fraction(*one) + Fraction(*other))
            self.check(Rate(*one) - Rate(*other), Fraction(*one) - Fraction(*other))

    def test_with_integers(self):
        for one, k in product(PARTS, INTEGERS):
            self.check(Rate(*one) + k, Fraction(*one) + k)
            self.check(Rate(*one) - k, Fraction(*one) - k)
            self.check(k + Rate(*one), k + Fraction(*one))
            self.check(k - Rate(*one), k - Fraction(*one))
            self.check(Rate(*one) * k, Fraction(*one) * k)
            self.check(-Rate(*one), -Fraction(*one))

    def test_in_place(self):
        for change, told in (("+= 1", "5/2"), ("-= 1", "1/2"), ("*= 4", "6"), ("+= held", "3"), ("-= held", "0")):
            names = {"held": Rate(3, 2)}
            first = names["held"]
            exec(f"held {change}", names)
            self.equal((str(names["held"]), str(first)), (told, "3/2"))
        for change in ("+= None", "-= True", "*= held", "*= '2'"):
            names = {"held": Rate(3, 2)}
            first = names["held"]
            with self.assertRaises(BadNumber):
                exec(f"held {change}", names)
            self.assertIs(names["held"], first)

    def test_wrong_operands(self):
        for value in NO_RATES:
            for work in (lambda: Rate(3, 2) + value, lambda: Rate(3, 2) - value):
                self.refused(BadNumber, [value], work)
            if not isinstance(value, WITH_SIGNS):
                self.refused(BadNumber, [value], lambda: value + Rate(3, 2))
                self.refused(BadNumber, [value], lambda: value - Rate(3, 2))
        for value in NO_INTEGERS:
            self.refused(BadNumber, [value], lambda: Rate(3, 2) * value)
        for value in (LINES, TWICE):
            self.refused(BadNumber, [value], lambda: Rate(1) + value)


class Floor(Checks):
    def test_floor(self):
        for one in PARTS:
            self.equal(Rate(*one).floor, Fraction(*one).__floor__())
        self.equal([Rate(k, 3).floor for k in range(-4, 5)], [-2, -1, -1, -1, 0, 0, 0, 1, 1])


class Written(Checks):
    def test_str(self):
        for one in PARTS:
            self.equal(str(Rate(*one)), str(Fraction(*one)))

    def test_str_of_each_kind(self):
        nines = "9" * 70
        for upper, lower, told in [
                (3, 2, "3/2"), (6, 4, "3/2"), (-3, 2, "-3/2"), (1, 7, "1/7"), (-1, 60, "-1/60"), (3, 1, "3"), (6, 2, "3"),
                (-6, 2, "-3"), (1, 1, "1"), (0, 1, "0"), (0, 9, "0"), (10 ** 60, 1, "1" + "0" * 60),
                (-(10 ** 60), 3, "-1" + "0" * 60 + "/3"), (1, 10 ** 61, "1/1" + "0" * 61), (int(nines), 7, nines + "/7"),
                (int(nines), 10 ** 70, nines + "/1" + "0" * 70), (-int(nines), int(nines), "-1")]:
            self.equal((str(Rate(upper, lower)), f"{Rate(upper, lower)}"), (told, told))

    def test_read(self):
        for upper, lower in [*PARTS[:-3], (-(10 ** 60 - 1), 10 ** 60 - 2), (10 ** 60 - 1, 1), (0, 1)]:
            rate = Rate.read(str(Fraction(upper, lower)))
            self.equal(rate == Rate(upper, lower), True)
        self.equal(str(Rate.read(text="-22/7")), "-22/7")

    def test_figures(self):
        nines, one = "9" * 60, "1" + "0" * 60
        for text in (nines, f"-{nines}", f"1/{nines}", f"-1/{nines}", f"{'9' * 59}8/{nines}"):
            self.equal(str(Rate.read(text)), text)
        for text in (one, f"-{one}", f"1/{one}", f"{one}/3", f"{one}/{one[:-1]}1", nines + "1", f"3/{nines}01"):
            self.refused(BadText, [0, 0], Rate.read, text)

    def test_other_texts(self):
        for text in ("", " ", "/", "1/", "/2", "2/4", "4/2", "3/1", "0/1", "0/5", "1/0", "0/0", "-0", "-0/1", "1/-2", "-1/-2",
                     "01", "1/02", "+1", "1 /2", "1/ 2", " 1/2", "1/2 ", "1/2\n", "1/2/3", "1//2", "--1", "1.5", "one",
                     "1_0", "1/1_1", "\u0663", "\u00b2", "1/\u0662", "-", "-/2", "5/5", "-6/4", "0/-1"):
            self.refused(BadText, [0, 0], Rate.read, text)

    def test_other_values(self):
        for value in ANYTHING:
            if value != "1":
                self.refused(BadText, [0, 0], Rate.read, value)
        self.equal(Rate.read("1") == 1, True)


class Kept(Checks):
    def test_nothing_changes(self):
        one, other = Rate(3, 2), Rate(-7, 5)
        for work in (lambda: one + other, lambda: one - 1, lambda: 1 - one, lambda: one * 4, lambda: -one,
                     lambda: one < other, lambda: one.floor, lambda: str(one)):
            work()
        for work in (lambda: one + None, lambda: one * other, lambda: one < "a"):
            self.assertRaises(BadNumber, work)
        self.equal((one.upper, one.lower, other.upper, other.lower), (3, 2, -7, 5))
