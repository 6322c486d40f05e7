"""Rates: fractions of integers."""

from math import gcd

from headgap.errors import BadNumber, BadText
from headgap.kinds import is_integer, is_number


class Rate:
    """A fraction in least terms; it never changes."""

    def __init__(self, upper, lower=1):
        if not is_integer(upper):
            raise BadNumber(upper)
        if not is_integer(lower) or lower < 1:
            raise BadNumber(lower)
        part = gcd(upper, lower)
        self.upper = upper // part
        self.lower = lower // part

    @classmethod
    def read(cls, text):
        """The rate with this str."""
        if not isinstance(text, str):
            raise BadText(0, 0)
        upper, sign, lower = text.partition("/")
        if not is_number(upper) or (sign == "/" and not is_number(lower)):
            raise BadText(0, 0)
        below = int(lower) if sign == "/" else 1
        if below < 1:
            raise BadText(0, 0)
        rate = cls(int(upper), below)
        if str(rate) != text:
            raise BadText(0, 0)
        return rate

    @property
    def floor(self):
        """The greatest integer that is not greater."""
        return self.upper // self.lower

    def __eq__(self, other):
        if is_integer(other):
            return self.lower == 1 and self.upper == other
        return isinstance(other, Rate) and self.upper == other.upper and self.lower == other.lower

    def __lt__(self, other):
        return (self - other).upper < 0

    def __le__(self, other):
        return (self - other).upper <= 0

    def __gt__(self, other):
        return (self - other).upper > 0

    def __ge__(self, other):
        return (self - other).upper >= 0

    def __add__(self, other):
        if is_integer(other):
            return Rate(self.upper + other * self.lower, self.lower)
        if not isinstance(other, Rate):
            raise BadNumber(other)
        return Rate(self.upper * other.lower + other.upper * self.lower, self.lower * other.lower)

    def __radd__(self, other):
        return self + other

    def __neg__(self):
        return Rate(-self.upper, self.lower)

    def __sub__(self, other):
        if not is_integer(other) and not isinstance(other, Rate):
            raise BadNumber(other)
        return self + -other

    def __rsub__(self, other):
        return -self + other

    def __mul__(self, other):
        if not is_integer(other):
            raise BadNumber(other)
        return Rate(self.upper * other, self.lower)

    def __str__(self):
        if self.lower == 1:
            return str(self.upper)
        return f"{self.upper}/{self.lower}"
