"""The growths of the useful states: reckoned from length to length until they surely go on by gains alone."""

from headgap.growths import Growth
from headgap.ways import useful_states, useful_steps

WORDS = ("longest", "least", "burst", "gap")
# The rings of at most six states that pass no state twice have at most six letters: within 60 letters each of them
# comes round whole times, so all growths go on by 60 gains.
ROUND = 60


def worth_of(word, answer):
    """What a step or a tail with this answer counts; of least lengths the one nearest to 0 is the greatest."""
    if word == "gap":
        return len(answer) - 1
    return -len(answer) if word == "least" else len(answer)


def first_worth(word, converter, state):
    """What a state counts if no letter follows, None if it cannot end there."""
    if word == "burst":
        return 0
    if state not in converter.tails:
        return None
    return 0 if word == "gap" else worth_of(word, converter.tails[state])


class Equations:
    """The equations of the growths of a word; rows hold one value for each useful state, in their order."""

    def __init__(self, converter, word):
        self.states = useful_states(converter)
        self.is_gap = word == "gap"
        self.first = [first_worth(word, converter, state) for state in self.states]
        self.ways = [[] for state in self.states]
        best = {}
        steps = useful_steps(converter)
        for state, letter in steps:
            answer, to = steps[state, letter]
            if (state, to) not in best or best[state, to] < worth_of(word, answer):
                best[state, to] = worth_of(word, answer)
        for state, to in best:
            self.ways[self.states.index(state)].append((self.states.index(to), best[state, to]))

    def row_behind(self, row, n):
        """The row at n + 1, from that at n."""
        found = []
        for ways in self.ways:
            most = None
            for to, worth in ways:
                if row[to] is not None and (most is None or row[to] + worth > most):
                    most = row[to] + worth
            # The last letter of a text is read before anything could be run over.
            if self.is_gap and most is not None and (most < 0 or n == 0):
                most = 0
            found.append(most)
        return found

    def rows_to(self, n):
        """The rows at 0 and so on up to n."""
        return self.rows_on([self.first], n)

    def rows_on(self, rows, n):
        """The first rows, and those behind them up to n."""
        found = list(rows)
        while len(found) <= n:
            found.append(self.row_behind(found[-1], len(found) - 1))
        return found


def gain_rows(rows, begin):
    """The gains within the round from begin on, row by row, None for None; None if a rest does not stay as it is."""
    found = []
    for n in range(begin, begin + ROUND):
        gains = []
        for value, later in zip(rows[n], rows[n + ROUND]):
            if (value is None) != (later is None):
                return None
            gains.append(None if value is None or later is None else later - value)
        found.append(gains)
    return found


def goes_on(equations, rows, begin):
    """Whether rows that keep the equations go on by gains alone from begin on, for ever; begin is 1 or more.

    They are told up to two rounds behind begin.
    """
    climbs = gain_rows(rows, begin)
    if climbs is None:
        return False
    for value, later, gain in zip(rows[begin + ROUND], rows[begin + 2 * ROUND], climbs[0]):
        if (value is None) != (later is None) or (gain is not None and later != value + gain):
            return False
    # What is the greatest for two rounds is so for all if nothing beside it gains more. For nought, which stands
    # beside all gaps, this means that no gap falls.
    for n, gains in enumerate(climbs):
        behind = climbs[(n + 1) % ROUND]
        for at, ways in enumerate(equations.ways):
            for to, _ in ways:
                if gains[to] is not None and gains[to] > behind[at]:
                    return False
            if equations.is_gap and gains[at] is not None and gains[at] < 0:
                return False
    return True


def growths_of(converter, word):
    """The dict from the useful states to their growths."""
    equations = Equations(converter, word)
    begin = 1
    rows = equations.rows_to(begin + 2 * ROUND)
    while not goes_on(equations, rows, begin):
        begin = begin + ROUND
        rows = equations.rows_on(rows, begin + 2 * ROUND)
    climbs = gain_rows(rows, begin)
    found = {}
    for at, state in enumerate(equations.states):
        gains = [climbs[(rest - begin) % ROUND][at] for rest in range(ROUND)]
        growth = Growth([row[at] for row in rows[:begin + ROUND]], [0 if gain is None else gain for gain in gains])
        found[state] = -growth if word == "least" else growth
    return found


def growth_at_start(converter, word):
    """The growth of the start; none if no text is taken."""
    growths = growths_of(converter, word)
    return growths[converter.start] if converter.start in growths else Growth.none()
