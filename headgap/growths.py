"""Growths: an integer or None for each n from 0 on, told at first and then going on by gains."""

from math import gcd

from headgap.errors import BadGrowth, BadNumber, BadText, TooMany
from headgap.forms import (
    MOST_GAINS, MOST_TOLD, lasting_gains, place_above, read_rows, row_words, settled, shifted_back, shifted_on, summed,
    value_at, winning)
from headgap.kinds import is_count, is_integer


def are_gains(gains):
    """Whether any value can be the gains of a growth."""
    if not isinstance(gains, (list, tuple)) or len(gains) < 1 or len(gains) > MOST_GAINS:
        return False
    return all([is_integer(gain) for gain in gains])


def are_told(told, least):
    """Whether any value can be the told ones of a growth, at least so many."""
    if not isinstance(told, (list, tuple)) or len(told) < least:
        return False
    # Thousands of values are told, so each is asked no more than it takes.
    wrong = [value for value in told
             if value is not None and (value is True or value is False or not isinstance(value, int))]
    return len(wrong) == 0


def is_shift(k):
    """Whether any value is a number of places by which a growth can be shifted."""
    return is_count(k) and k <= MOST_TOLD


def made(told, gains):
    """The growth of such rows, made of growths; they may have more gains than a growth can have. Raises TooMany."""
    least_told, least_gains = settled(told, gains)
    if len(least_gains) > MOST_GAINS:
        raise TooMany("period", MOST_GAINS)
    if len(least_told) > MOST_TOLD:
        raise TooMany("told", MOST_TOLD)
    # Rows that come of growths hold what growths hold, so they are not looked through once more.
    growth = Growth((0,))
    growth.told = tuple(least_told)
    growth.gains = tuple(least_gains)
    return growth


class Growth:
    """A growth in its normal form; it never changes."""

    def __init__(self, told, gains=(0,)):
        if not are_gains(gains):
            raise BadGrowth("gains")
        if not are_told(told, len(gains)):
            raise BadGrowth("told")
        least_told, least_gains = settled(told, gains)
        if len(least_told) > MOST_TOLD:
            raise TooMany("told", MOST_TOLD)
        self.told = tuple(least_told)
        self.gains = tuple(least_gains)

    @staticmethod
    def constant(k):
        """The growth that is k for all n."""
        if not is_integer(k):
            raise BadNumber(k)
        return Growth([k])

    @staticmethod
    def ramp(gain, begin=0):
        """The growth begin + gain * n."""
        if not is_integer(gain):
            raise BadNumber(gain)
        if not is_integer(begin):
            raise BadNumber(begin)
        return Growth([begin], [gain])

    @staticmethod
    def none():
        """The growth that is None for all n."""
        return Growth([None])

    @classmethod
    def read(cls, text):
        """The growth with this str."""
        told, gains = read_rows(text)
        growth = cls(told, gains)
        if str(growth) != text:
            raise BadText(0, 0)
        return growth

    @property
    def period(self):
        """The number of gains."""
        return len(self.gains)

    @property
    def greatest(self):
        """The greatest value; None if there is none, or no greatest one."""
        if self.is_endless:
            return None
        return max([int(value) for value in self.told if value is not None], default=None)

    @property
    def is_endless(self):
        """Whether the values have no upper bound."""
        return any([gain > 0 for gain in lasting_gains(self.told, self.gains)])

    @property
    def slope(self):
        """The greatest gain over the period, as a pair in lowest terms; None if all ends in None."""
        gain = max([int(gain) for gain in lasting_gains(self.told, self.gains)], default=None)
        if gain is None:
            return None
        part = gcd(gain, len(self.gains))
        return gain // part, len(self.gains) // part

    def stretch(self, a, b):
        """The tuple of the values from a to b - 1."""
        for value in (a, b):
            if not is_count(value):
                raise BadNumber(value)
        if b - a > MOST_TOLD:
            raise TooMany("told", MOST_TOLD)
        return tuple([value_at(self.told, self.gains, n) for n in range(a, b)])

    def raised(self, k):
        """Each value below k is k; None stays."""
        told, gains = winning(self, Growth.constant(k), 1, True)
        return made(told, gains)

    def first_above(self, other):
        """The least n at which this growth has an integer and other has none, or a less one; None if none is."""
        if not isinstance(other, Growth):
            raise BadGrowth("other")
        return place_above(self, other)

    def __call__(self, n):
        if not is_count(n):
            raise BadNumber(n)
        return value_at(self.told, self.gains, n)

    def __getitem__(self, at):
        if not is_count(at):
            raise BadNumber(at)
        return value_at(self.told, self.gains, at)

    def __iter__(self):
        raise TypeError("a growth has no end")

    def __contains__(self, x):
        return is_count(x) and value_at(self.told, self.gains, x) is not None

    def __eq__(self, other):
        return isinstance(other, Growth) and self.told == other.told and self.gains == other.gains

    def __str__(self):
        return " ".join(row_words(self.told, self.gains))

    def __le__(self, other):
        return self.first_above(other) is None

    def __add__(self, other):
        if is_integer(other):
            return made([None if value is None else value + other for value in self.told], self.gains)
        if not isinstance(other, Growth):
            raise BadGrowth("other")
        told, gains = summed(self, other)
        return made(told, gains)

    def __radd__(self, other):
        return self + other

    def __neg__(self):
        return self * -1

    def __sub__(self, other):
        if not is_integer(other) and not isinstance(other, Growth):
            raise BadGrowth("other")
        return self + -other

    def __rsub__(self, other):
        return -self + other

    def __mul__(self, other):
        if not is_integer(other):
            raise BadNumber(other)
        return made([None if value is None else value * other for value in self.told],
                    [gain * other for gain in self.gains])

    def __rmul__(self, other):
        return self * other

    def __or__(self, other):
        if not isinstance(other, Growth):
            raise BadGrowth("other")
        told, gains = winning(self, other, 1, False)
        return made(told, gains)

    def __ror__(self, other):
        raise BadGrowth("other")

    def __and__(self, other):
        if not isinstance(other, Growth):
            raise BadGrowth("other")
        told, gains = winning(self, other, -1, False)
        return made(told, gains)

    def __rand__(self, other):
        raise BadGrowth("other")

    def __lshift__(self, other):
        if not is_shift(other):
            raise BadNumber(other)
        told, gains = shifted_back(self, other)
        return made(told, gains)

    def __rshift__(self, other):
        if not is_shift(other):
            raise BadNumber(other)
        told, gains = shifted_on(self, other)
        return made(told, gains)
