"""Growths told by their definition alone, to hold the program against."""

from itertools import product


def plain(told, gains, n):
    """The value at n, by the words of the definition."""
    if n < len(told):
        return told[n]
    value = plain(told, gains, n - len(gains))
    return None if value is None else value + gains[n % len(gains)]


def row(told, gains, length):
    """The first values."""
    values = list(told)
    while len(values) < length:
        before = values[len(values) - len(gains)]
        values.append(None if before is None else before + gains[len(values) % len(gains)])
    return values[:length]


def goes_on(values, begin, many):
    """The gains by which values go on from begin on, None for a rest without a value; False if they do not."""
    gains = [None] * many
    for n in range(begin, len(values)):
        value, before = values[n], values[n - many]
        if (value is None) != (before is None):
            return False
        if value is not None:
            if gains[n % many] not in (None, value - before):
                return False
            gains[n % many] = value - before
    return gains


def normal(told, gains, length=60):
    """The normal form, found by trying all periods and all numbers of told ones on the first values."""
    values = row(told, gains, length)
    for many in range(1, length):
        for begin in range(many, length // 2):
            found = goes_on(values, begin, many)
            if found is not False:
                return tuple(values[:begin]), tuple(0 if gain is None else gain for gain in found)
    raise AssertionError("the first values are too few")


def small_rows():
    """All told ones and gains of one or two small numbers each, and some longer ones."""
    rows = []
    for told in product((None, 0, 1, 3), repeat=2):
        rows.extend((told, gains) for gains in product((-1, 0, 2), repeat=2))
        rows.extend((told, (gain,)) for gain in (-2, 0, 1))
    for told in product((None, 0, 2), repeat=3):
        rows.extend((told, gains) for gains in ((0, 0, 0), (2, 2, 2), (3, 0, 0), (0, -1, 5), (3, 3, 3)))
        rows.extend((told, gains) for gains in ((0, 2), (2, 2), (4, 4)))
    rows.extend([
        ((0, 1, 2, 3, 4), (6, 6, 6, 6, 6)), ((0, 1, 2, 3, 4, 5), (6,) * 6), ((0, 1, 2, 3), (2, 2, 2, 2)),
        ((None, 0, None, 4), (0, 8, 0, 8)), ((None, 0, None, 5), (7, 8, 9, 8)), ((7, 7, 0, 1, 0, 1), (0, 0, 0, 0)),
        ((0, 0, 1, 1, 2, 2), (3, 3, 3, 3, 3, 3)), ((5, None, 0, None, 1, None), (2, 9, 2, 9)), ((20, 1), (0,)),
        ((0, 10, 20, 0, 10, 21), (0, 0, 1)), ((-9, 9), (1, -1)), ((1, 2, 3, 4, 5, 6), (6, 6, 6, 6, 6, 5)),
    ])
    return rows
