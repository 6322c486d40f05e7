"""The growths of the useful states: reckoned from length to length until they surely go on by gains alone."""

from headgap.growths import Growth
from headgap.ways import steps_between, useful_states

WORDS = ("longest", "least", "burst", "gap")
# Growths go on by as many gains as there are letters in which rings come round whole times, one ring for each part of
# the converter that has some. These rings share no state, so they have at most six letters together, and come round
# in at most six: in one of these, the greatest first, or in a part of it.
ROUNDS = (6, 5, 4)
# They all are parts of this one.
ROUND = 60
# How many letters more are reckoned at first, if growths do not go on by gains alone from the first letter on.
FIRST_MORE = 6


def worth_of(word, answer):
    """What a step or a tail with this answer counts; of least lengths the one nearest to 0 is the greatest."""
    if word == "gap":
        return len(answer) - 1
    return -len(answer) if word == "least" else len(answer)


def first_worth(word, converter, state):
    """What a state counts if no letter follows, None if it cannot end there."""
    if word == "burst":
        return 0
    if state not in converter.tails:
        return None
    return 0 if word == "gap" else worth_of(word, converter.tails[state])


class Equations:
    """The equations of the growths of a word; rows hold one value for each useful state, in their order."""

    def __init__(self, converter, word):
        self.states = useful_states(converter)
        self.is_gap = word == "gap"
        self.first = [first_worth(word, converter, state) for state in self.states]
        best = [{} for state in self.states]
        places = {state: at for at, state in enumerate(self.states)}
        for (state, _), (answer, to) in steps_between(converter, self.states).items():
            row, worth = best[places[state]], worth_of(word, answer)
            if places[to] not in row or row[places[to]] < worth:
                row[places[to]] = worth
        self.ways = [list(row.items()) for row in best]

    def row_behind(self, row, n):
        """The row at n + 1, from that at n."""
        found = []
        for ways in self.ways:
            most = None
            for to, worth in ways:
                if row[to] is not None and (most is None or row[to] + worth > most):
                    most = row[to] + worth
            # The last letter of a text is read before anything could be run over.
            if self.is_gap and most is not None and (most < 0 or n == 0):
                most = 0
            found.append(most)
        return found

    def rows_to(self, n):
        """The rows at 0 and so on up to n."""
        return self.rows_on([self.first], n)

    def rows_on(self, rows, n):
        """The first rows, and those behind them up to n."""
        found = list(rows)
        while len(found) <= n:
            found.append(self.row_behind(found[-1], len(found) - 1))
        return found


def gains_between(row, later):
    """What each value of a row gains up to a later one, None for None; None if a value does not stay as it is."""
    gains = []
    for value, other in zip(row, later):
        if (value is None) != (other is None):
            return None
        gains.append(None if value is None or other is None else other - value)
    return gains


def goes_on(equations, rows, begin, many):
    """Whether rows that keep the equations go on by so many gains alone from begin on, for ever; begin is 1 or more.

    They are told up to two rounds behind begin.
    """
    climbs = [gains_between(rows[begin], rows[begin + many])]
    if climbs[0] is None or climbs[0] != gains_between(rows[begin + many], rows[begin + 2 * many]):
        return False
    for n in range(begin + 1, begin + many):
        gains = gains_between(rows[n], rows[n + many])
        if gains is None:
            return False
        climbs.append(gains)
    # What is the greatest for two rounds is so for all if nothing beside it gains more. For nought, which stands
    # beside all gaps, this means that no gap falls.
    for n, gains in enumerate(climbs):
        behind = climbs[(n + 1) % many]
        for at, ways in enumerate(equations.ways):
            for to, _ in ways:
                if gains[to] is not None and gains[to] > behind[at]:
                    return False
            if equations.is_gap and gains[at] is not None and gains[at] < 0:
                return False
    return True


def reckoned(equations):
    """The rows up to two rounds behind where they surely go on by gains alone, that place, and the round."""
    begin = 1
    rows = equations.rows_to(begin + 2 * ROUNDS[0])
    while True:
        for many in ROUNDS:
            if goes_on(equations, rows, begin, many):
                return rows, begin, many
        # Twice as far each time: what is reckoned and tried in vain is no more than a part of what is needed.
        begin = 2 * begin + FIRST_MORE
        rows = equations.rows_on(rows, begin + 2 * ROUNDS[0])


def growth_along(word, rows, begin, many, at):
    """The growth of the state at this place, from rows that go on by so many gains alone from begin on."""
    sign = -1 if word == "least" else 1
    told = [None if row[at] is None else sign * row[at] for row in rows[:begin + 2 * many]]
    gains = []
    for rest in range(many):
        n = begin + (rest - begin) % many
        gains.append(0 if told[n] is None else told[n + many] - told[n])
    return Growth(told[:begin + many], gains)


def growths_of(converter, word):
    """The dict from the useful states to their growths."""
    equations = Equations(converter, word)
    rows, begin, many = reckoned(equations)
    return {state: growth_along(word, rows, begin, many, at) for at, state in enumerate(equations.states)}


def growth_at_start(converter, word):
    """The growth of the start; none if no text is taken."""
    equations = Equations(converter, word)
    if converter.start not in equations.states:
        return Growth.none()
    rows, begin, many = reckoned(equations)
    return growth_along(word, rows, begin, many, equations.states.index(converter.start))
