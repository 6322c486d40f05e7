"""Rings: ways along useful steps back to their state, and the greatest mean of what they write."""

from headgap.errors import BadPaper
from headgap.held import copied, same
from headgap.kinds import is_integer, is_name, is_text
from headgap.rates import Rate
from headgap.ways import check_converter, useful_states, useful_steps


class Ring:
    """A paper: a state, and a text that leads from it back to it."""

    def __init__(self, state, text):
        self.state = copied(state)
        self.text = copied(text)

    def __eq__(self, other):
        return isinstance(other, Ring) and same(self.state, other.state) and same(self.text, other.text)


class Mean:
    """A paper: the greatest mean of a ring, a ring that has it, and heights that show that none has a greater one."""

    def __init__(self, rate, ring, heights):
        self.rate = copied(rate)
        self.ring = copied(ring)
        self.heights = copied(heights)

    def __eq__(self, other):
        return (isinstance(other, Mean) and same(self.rate, other.rate) and same(self.ring, other.ring)
                and same(self.heights, other.heights))


def ring_texts(steps, first):
    """The texts of the simple rings of which this state is the least one, ascending."""
    found = []
    ways = [("", [first])]
    at = 0
    while at < len(ways):
        text, path = ways[at]
        for state, letter in steps:
            _, to = steps[state, letter]
            if state == path[-1] and to == first:
                found.append(text + letter)
            elif state == path[-1] and to > first and to not in path:
                ways.append((text + letter, [*path, to]))
        at += 1
    return sorted([str(text) for text in found])


def rings(converter):
    """All simple rings, each told from its least state, ascending by state, then by text."""
    check_converter(converter)
    steps = useful_steps(converter)
    for state in useful_states(converter):
        for text in ring_texts(steps, state):
            yield Ring(state, text)


def mean_of(steps, ring):
    """The mean of a ring along these steps; None for any value that is no such ring."""
    if not isinstance(ring, Ring) or not is_name(ring.state) or not is_text(ring.text) or ring.text == "":
        return None
    written, state = 0, ring.state
    for letter in ring.text:
        if (state, letter) not in steps:
            return None
        answer, to = steps[state, letter]
        written, state = written + len(answer), to
    return Rate(written, len(ring.text)) if state == ring.state else None


def ring_rate(converter, ring):
    """The mean of a ring, simple or not."""
    check_converter(converter)
    rate = mean_of(useful_steps(converter), ring)
    if rate is None:
        raise BadPaper("ring")
    return rate


def gain_of(rate, answer):
    """How much higher the height behind a step with this answer must be at least."""
    return rate.lower * len(answer) - rate.upper


def heights_for(converter, steps, rate):
    """Heights that show this rate: behind no way more than the state has is gained, whatever it begins with."""
    heights = {state: 0 for state in useful_states(converter)}
    # No ring gains anything, so a way that passes no state twice gains as much as any.
    for _ in range(len(heights)):
        for state, letter in steps:
            answer, to = steps[state, letter]
            heights[to] = max(int(heights[to]), heights[state] + gain_of(rate, answer))
    return heights


def greatest_mean(converter):
    """The greatest mean of a ring as a Mean; None if there is no ring."""
    check_converter(converter)
    steps = useful_steps(converter)
    rate, found = None, None
    # A ring that is not simple is made of simple ones, one of which has at least its mean.
    for ring in rings(converter):
        mean = mean_of(steps, ring)
        if rate is None or mean > rate:
            rate, found = mean, ring
    return None if rate is None else Mean(rate, found, heights_for(converter, steps, rate))


def are_heights(converter, steps, rate, heights):
    """Whether any value tells heights that show this rate, perhaps with other keys, too."""
    if not isinstance(heights, dict):
        return False
    for state in useful_states(converter):
        if state not in heights or not is_integer(heights[state]):
            return False
    for state, letter in steps:
        answer, to = steps[state, letter]
        if heights[to] < heights[state] + gain_of(rate, answer):
            return False
    return True


def shows_mean(converter, value):
    """Whether any value is right as what greatest_mean tells."""
    check_converter(converter)
    if value is None:
        return greatest_mean(converter) is None
    if not isinstance(value, Mean) or not isinstance(value.rate, Rate):
        return False
    steps = useful_steps(converter)
    mean = mean_of(steps, value.ring)
    return mean is not None and mean == value.rate and are_heights(converter, steps, value.rate, value.heights)
