"""The rows of growths: told values and gains of any number, their normal form, and what is made of two."""

from math import lcm

from headgap.errors import BadText, TooMany
from headgap.kinds import is_number

MOST_GAINS = 60
MOST_TOLD = 4000


def value_at(told, gains, n):
    """The value at n, however far n lies behind the told ones."""
    if n < len(told):
        return told[n]
    many = len(gains)
    rounds = (n - len(told)) // many + 1
    first = told[n - rounds * many]
    if first is None:
        return None
    return first + rounds * gains[n % many]


def lasting_gains(told, gains):
    """The gains of the rests that are not None for ever."""
    many = len(gains)
    return [gains[n % many] for n in range(len(told) - many, len(told)) if told[n] is not None]


def leads(value, later, gain):
    """Whether a value one period ahead of a later one gives it by this gain."""
    if value is None:
        return later is None
    return value + gain == later


def is_period(tail, climbs, period):
    """Whether values that go on for ever by these climbs already repeat within a part of their length."""
    if climbs[period:] != climbs[:len(climbs) - period]:
        return False
    parts = len(tail) // period
    for value, later, climb in zip(tail, tail[period:], climbs):
        if value is None or later is None:
            if value is not None or later is not None:
                return False
        elif (later - value) * parts != climb:
            return False
    return True


def least_period(tail, climbs):
    """The least period of such values: it divides each other one, so the divisors are all there is to try."""
    many = len(tail)
    for period in range(1, many):
        if many % period == 0 and is_period(tail, climbs, period):
            return period
    return many


def settled(told, gains):
    """The told ones and the gains of the normal form."""
    many = len(gains)
    begin = len(told) - many
    tail = told[begin:]
    climbs = [0 if tail[k] is None else gains[(begin + k) % many] for k in range(many)]
    period = least_period(tail, climbs)
    least = [climbs[(rest - begin) % period] * period // many for rest in range(period)]
    while begin > 0 and leads(told[begin - 1], told[begin - 1 + period], least[(begin - 1) % period]):
        begin = begin - 1
    return told[:begin + period], least


def shifted_back(told, gains, k):
    """The rows of the values from k on."""
    many = len(gains)
    length = max(len(gains), len(told) - k)
    return [value_at(told, gains, n + k) for n in range(length)], [gains[(rest + k) % many] for rest in range(many)]


def shifted_on(told, gains, k):
    """The rows of the values with k times None ahead of them."""
    many = len(gains)
    return [None] * k + list(told), [gains[(rest - k) % many] for rest in range(many)]


def common_period(one, other):
    """A period of both growths."""
    return lcm(len(one.gains), len(other.gains))


def common_begin(one, other):
    """From here on both growths go on by their gains alone."""
    return max(int(len(one.told) - len(one.gains)), len(other.told) - len(other.gains))


def gain_over(growth, n, many):
    """What a growth gains from n on over so many places, a multiple of its period."""
    period = len(growth.gains)
    return growth.gains[n % period] * (many // period)


def summed(one, other):
    """The rows of the sum of two growths."""
    many = common_period(one, other)
    told = []
    for n in range(common_begin(one, other) + many):
        first, second = value_at(one.told, one.gains, n), value_at(other.told, other.gains, n)
        told.append(None if first is None or second is None else first + second)
    return told, [gain_over(one, rest, many) + gain_over(other, rest, many) for rest in range(many)]


def greater_value(first, second):
    """The greater one of two values; where one of them is None, the other one."""
    if first is None:
        return second
    if second is None:
        return first
    return max(int(first), second)


def last_leader(first, climb, second, rise):
    """The value and the climb that win in the end, and behind how many rounds they have caught up."""
    if second is None or first is None:
        return (first, climb, 0) if second is None else (second, rise, 0)
    if (rise, second) > (climb, first):
        return last_leader(second, rise, first, climb)
    if first >= second:
        return first, climb, 0
    return first, climb, -((first - second) // (climb - rise))


def tail_rows(growth, begin, many):
    """The values from begin on, so many, a multiple of the period, and what each gains within so many places."""
    period = len(growth.gains)
    first = [value_at(growth.told, growth.gains, n) for n in range(begin, begin + period)]
    gains = [growth.gains[n % period] for n in range(begin, begin + period)]
    tail = []
    for k in range(many // period):
        tail.extend([None if value is None else value + k * gain for value, gain in zip(first, gains)])
    return tail, [gain * (many // period) for gain in gains] * (many // period)


def leading_rows(one, other, begin, many, is_kept):
    """The values and the climbs that win in the end, and the last place at which the winner is still behind."""
    ones, climbs = tail_rows(one, begin, many)
    others, rises = tail_rows(other, begin, many)
    tail = []
    gains = []
    last = begin - 1
    for k in range(many):
        second = None if is_kept and ones[k] is None else others[k]
        value, climb, rounds = last_leader(ones[k], climbs[k], second, rises[k])
        tail.append(value)
        gains.append(climb)
        if rounds > 0:
            last = max(int(last), begin + k + (rounds - 1) * many)
    return tail, gains, last


def greater(one, other, is_kept):
    """The rows of the greater one of two growths; None of the first one stays, if it is kept. Raises TooMany."""
    many, begin = common_period(one, other), common_begin(one, other)
    tail, climbs, last = leading_rows(one, other, begin, many, is_kept)
    period = least_period(tail, climbs)
    if period > MOST_GAINS:
        raise TooMany("period", MOST_GAINS)
    # Growths can cross later than any list is long. Where the winner is still behind, the value cannot go on by its
    # gain, so the normal form tells all up to there, and one period more: too many are refused before they are made.
    if last >= begin and last + 1 + period > MOST_TOLD:
        raise TooMany("told", MOST_TOLD)
    told = []
    for n in range(last + 1):
        first, second = value_at(one.told, one.gains, n), value_at(other.told, other.gains, n)
        told.append(None if is_kept and first is None else greater_value(first, second))
    gains = [climbs[(rest - begin) % many] * period // many for rest in range(period)]
    for n in range(last + 1, last + 1 + period):
        told.append(value_at(tail, climbs, n - begin))
    return told, gains


def rounds_until_above(first, climb, second, rise):
    """Behind how many rounds a value is above another one, or above none; None if it never is."""
    if first is None:
        return None
    if second is None or first > second:
        return 0
    if climb <= rise:
        return None
    return (second - first) // (climb - rise) + 1


def place_above(one, other):
    """The least place at which one growth is above the other one, or alone; None if there is none."""
    many, begin = common_period(one, other), common_begin(one, other)
    found = None
    for n in range(begin + many):
        first, second = value_at(one.told, one.gains, n), value_at(other.told, other.gains, n)
        if n < begin:
            rounds = rounds_until_above(first, 0, second, 0)
        else:
            rounds = rounds_until_above(first, gain_over(one, n, many), second, gain_over(other, n, many))
        if rounds == 0:
            return n
        if rounds is not None and (found is None or n + rounds * many < found):
            found = n + rounds * many
    return found


def row_words(told, gains):
    """The words in which a growth is written."""
    return [*["-" if value is None else str(value) for value in told], ";", *[str(gain) for gain in gains]]


def read_rows(text):
    """The told ones and the gains of a text, be they in the normal form or not; raises BadText."""
    if not isinstance(text, str):
        raise BadText(0, 0)
    words = text.split(" ")
    told = []
    gains = []
    is_told = True
    for at, word in enumerate(words):
        if is_told and at > 0 and word == ";":
            is_told = False
        elif is_told and at < MOST_TOLD and (word == "-" or is_number(word)):
            told.append(None if word == "-" else int(word))
        elif not is_told and len(gains) < min(len(told), MOST_GAINS) and is_number(word):
            gains.append(int(word))
        else:
            raise BadText(0, at)
    if len(gains) == 0:
        raise BadText(0, len(words))
    return told, gains
