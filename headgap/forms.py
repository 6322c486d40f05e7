"""The rows of growths: told values and gains of any number, their normal form, and what is made of two."""

from math import lcm

from headgap.errors import BadText, TooMany
from headgap.kinds import is_number

MOST_GAINS = 60
MOST_TOLD = 4000


def value_at(told, gains, n):
    """The value at n, however far n lies behind the told ones."""
    if n < len(told):
        return told[n]
    many = len(gains)
    rounds = (n - len(told)) // many + 1
    first = told[n - rounds * many]
    if first is None:
        return None
    return first + rounds * gains[n % many]


def values_to(growth, length):
    """The first values of a growth, so many."""
    told, many = growth.told, len(growth.gains)
    if length <= len(told):
        return told[:length]
    rests = [(told[n], growth.gains[n % many]) for n in range(len(told) - many, len(told))]
    rounds = (length - len(told) - 1) // many + 1
    later = [None if value is None else value + k * gain for k in range(1, rounds + 1) for value, gain in rests]
    return [*told, *later][:length]


def lasting_gains(told, gains):
    """The gains of the rests that are not None for ever."""
    many = len(gains)
    return [gains[n % many] for n in range(len(told) - many, len(told)) if told[n] is not None]


def is_period(tail, climbs, period):
    """Whether values that go on for ever by these climbs already repeat within a part of their length."""
    if climbs[period:] != climbs[:len(climbs) - period]:
        return False
    parts = len(tail) // period
    for value, later, climb in zip(tail, tail[period:], climbs):
        if value is None or later is None:
            if value is not None or later is not None:
                return False
        elif (later - value) * parts != climb:
            return False
    return True


def least_period(tail, climbs):
    """The least period of such values: it divides each other one, so the divisors are all there is to try."""
    many = len(tail)
    for period in range(1, many):
        if many % period == 0 and is_period(tail, climbs, period):
            return period
    return many


def begin_back(told, begin, gains):
    """From where on values go on by these gains, if they surely do so from begin on."""
    many = len(gains)
    while begin > 0:
        value, later = told[begin - 1], told[begin - 1 + many]
        if value is None or later is None:
            if value is not None or later is not None:
                return begin
        elif value + gains[(begin - 1) % many] != later:
            return begin
        begin = begin - 1
    return begin


def settled(told, gains):
    """The told ones and the gains of the normal form."""
    many = len(gains)
    begin = len(told) - many
    tail = told[begin:]
    climbs = [0 if tail[k] is None else gains[(begin + k) % many] for k in range(many)]
    period = least_period(tail, climbs)
    least = [climbs[(rest - begin) % period] * period // many for rest in range(period)]
    return told[:begin_back(told, begin, least) + period], least


def shifted_back(growth, k):
    """The rows of the values from k on."""
    many = len(growth.gains)
    length = max(len(growth.gains), len(growth.told) - k)
    return values_to(growth, k + length)[k:], [growth.gains[(rest + k) % many] for rest in range(many)]


def shifted_on(growth, k):
    """The rows of the values with k times None ahead of them."""
    many = len(growth.gains)
    return [None] * k + list(growth.told), [growth.gains[(rest - k) % many] for rest in range(many)]


def common_period(one, other):
    """A period of both growths."""
    return lcm(len(one.gains), len(other.gains))


def common_begin(one, other):
    """From here on both growths go on by their gains alone."""
    return max(int(len(one.told) - len(one.gains)), len(other.told) - len(other.gains))


def gain_over(growth, n, many):
    """What a growth gains from n on over so many places, a multiple of its period."""
    period = len(growth.gains)
    return growth.gains[n % period] * (many // period)


def summed(one, other):
    """The rows of the sum of two growths."""
    many = common_period(one, other)
    length = common_begin(one, other) + many
    told = [None if first is None or second is None else first + second
            for first, second in zip(values_to(one, length), values_to(other, length))]
    return told, [gain_over(one, rest, many) + gain_over(other, rest, many) for rest in range(many)]


def last_leader(first, climb, second, rise):
    """The value and the climb that win in the end, and behind how many rounds they have caught up."""
    if second is None or first is None:
        return (first, climb, 0) if second is None else (second, rise, 0)
    if (rise, second) > (climb, first):
        return last_leader(second, rise, first, climb)
    if first >= second:
        return first, climb, 0
    return first, climb, -((first - second) // (climb - rise))


def tail_rows(growth, begin, many, sign):
    """The values from begin on, so many, a multiple of the period, and what each gains within so many places.

    All are told times the sign.
    """
    period = len(growth.gains)
    gains = [sign * growth.gains[n % period] for n in range(begin, begin + period)]
    first = []
    for n in range(begin, begin + period):
        value = value_at(growth.told, growth.gains, n)
        first.append(None if value is None else sign * value)
    tail = []
    for k in range(many // period):
        tail.extend([None if value is None else value + k * gain for value, gain in zip(first, gains)])
    return tail, [gain * (many // period) for gain in gains] * (many // period)


def leading_rows(one, other, begin, many, sign, is_kept):
    """The values and the climbs that win in the end, and the last place at which the winner is still behind."""
    ones, climbs = tail_rows(one, begin, many, sign)
    others, rises = tail_rows(other, begin, many, sign)
    tail = []
    gains = []
    last = begin - 1
    for k in range(many):
        second = None if is_kept and ones[k] is None else others[k]
        value, climb, rounds = last_leader(ones[k], climbs[k], second, rises[k])
        tail.append(value)
        gains.append(climb)
        if rounds > 0:
            last = max(int(last), begin + k + (rounds - 1) * many)
    return tail, gains, last


def winning_values(one, other, length, sign, is_kept):
    """The first values of the greater one of two growths, or of the lesser one; so many."""
    ones, others = values_to(one, length), values_to(other, length)
    if is_kept:
        others = [None if first is None else second for first, second in zip(ones, others)]
    if sign > 0:
        return [second if first is None else first if second is None or first >= second else second
                for first, second in zip(ones, others)]
    return [second if first is None else first if second is None or first <= second else second
            for first, second in zip(ones, others)]


def winning(one, other, sign, is_kept):
    """The rows of the greater one of two growths, of the lesser one for the sign -1. Raises TooMany.

    None of the first one stays, if it is kept.
    """
    many, begin = common_period(one, other), common_begin(one, other)
    tail, climbs, last = leading_rows(one, other, begin, many, sign, is_kept)
    period = least_period(tail, climbs)
    if period > MOST_GAINS:
        raise TooMany("period", MOST_GAINS)
    # Growths can cross later than any list is long. Where the winner is still behind, the value cannot go on by its
    # gain, so the normal form tells all up to there, and one period more: too many are refused before they are made.
    if last >= begin and last + 1 + period > MOST_TOLD:
        raise TooMany("told", MOST_TOLD)
    gains = [sign * climbs[(rest - begin) % many] * period // many for rest in range(period)]
    return winning_values(one, other, last + 1 + period, sign, is_kept), gains


def rounds_until_above(first, climb, second, rise):
    """Behind how many rounds a value is above another one, or above none; None if it never is."""
    if first is None:
        return None
    if second is None or first > second:
        return 0
    if climb <= rise:
        return None
    return (second - first) // (climb - rise) + 1


def place_above(one, other):
    """The least place at which one growth is above the other one, or alone; None if there is none."""
    many, begin = common_period(one, other), common_begin(one, other)
    for n, (first, second) in enumerate(zip(values_to(one, begin), values_to(other, begin))):
        if first is not None and (second is None or first > second):
            return n
    found = None
    for n in range(begin, begin + many):
        first, second = value_at(one.told, one.gains, n), value_at(other.told, other.gains, n)
        rounds = rounds_until_above(first, gain_over(one, n, many), second, gain_over(other, n, many))
        if rounds == 0:
            return n
        if rounds is not None and (found is None or n + rounds * many < found):
            found = n + rounds * many
    return found


def row_words(told, gains):
    """The words in which a growth is written."""
    return [*["-" if value is None else str(value) for value in told], ";", *[str(gain) for gain in gains]]


def read_rows(text):
    """The told ones and the gains of a text, be they in the normal form or not; raises BadText."""
    if not isinstance(text, str):
        raise BadText(0, 0)
    words = text.split(" ")
    told = []
    gains = []
    is_told = True
    for at, word in enumerate(words):
        if is_told and at > 0 and word == ";":
            is_told = False
        elif is_told and at < MOST_TOLD and (word == "-" or is_number(word)):
            told.append(None if word == "-" else int(word))
        elif not is_told and len(gains) < min(len(told), MOST_GAINS) and is_number(word):
            gains.append(int(word))
        else:
            raise BadText(0, at)
    if len(gains) == 0:
        raise BadText(0, len(words))
    return told, gains
