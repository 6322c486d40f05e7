"""How great one array for text and answer must be: the least arrays and the extras of texts, and the greatest ones."""

from headgap.errors import BadNumber, NoText
from headgap.gaps import check_some_text, gap_for, gap_of
from headgap.growths import Growth
from headgap.held import copied, same
from headgap.kinds import is_count
from headgap.papers import Verdict
from headgap.runs import least_text
from headgap.sizes import longest
from headgap.walks import (
    climb_to, climbed, heights_from, lowered, part_of, rising_ring, step_graph, turned, words_from, words_to)
from headgap.ways import check_converter

MOST_FOR_EXTRA = 200


class Fits(Verdict):
    """A paper: the greatest extra, rises and losses that show that none is greater, and a text that has it."""

    def __init__(self, number, rises, losses, text):
        self.number = copied(number)
        self.rises = copied(rises)
        self.losses = copied(losses)
        self.text = copied(text)

    def __eq__(self, other):
        return (isinstance(other, Fits) and same(self.number, other.number) and same(self.rises, other.rises)
                and same(self.losses, other.losses) and same(self.text, other.text))

    def __bool__(self):
        return True


class Beyond(Verdict):
    """A paper: texts of which the second rises and the fourth falls, and both can be repeated."""

    def __init__(self, ahead, rising, between, falling, behind):
        self.ahead = copied(ahead)
        self.rising = copied(rising)
        self.between = copied(between)
        self.falling = copied(falling)
        self.behind = copied(behind)

    def __eq__(self, other):
        return (isinstance(other, Beyond) and same(self.ahead, other.ahead) and same(self.rising, other.rising)
                and same(self.between, other.between) and same(self.falling, other.falling)
                and same(self.behind, other.behind))

    def __bool__(self):
        return False


def array_of(converter, text):
    """How many cells the least array for a taken text has."""
    ahead = gap_of(converter, text)
    return max(len(text) + ahead, len(converter(text)))


def extra_of(converter, text):
    """How many more cells that are than the longer of text and answer has letters."""
    cells = array_of(converter, text)
    return cells - max(len(text), len(converter(text)))


def array_growth(lengths, gaps):
    """The growth of the greatest array_of, from the growths of the greatest lengths and gaps."""
    return lengths | (gaps + Growth.ramp(1))


def array_for(converter):
    """The growth of the greatest array_of of the taken texts of n letters."""
    check_converter(converter)
    return array_growth(longest(converter), gap_for(converter))


def fits_in(converter, cells):
    """The greatest n such that no taken text of at most n letters needs more cells, -1 if none is; None without one."""
    check_converter(converter)
    if not is_count(cells):
        raise BadNumber(cells)
    place = array_for(converter).first_above(Growth.constant(cells))
    return None if place is None else place - 1


def tail_falls(converter, graph):
    """How far the tails alone make the heights fall, for the useful states that have one."""
    return {state: -len(converter.tails[state]) for state in graph if state in converter.tails}


def beyond(converter, graph, state):
    """The Beyond of a converter of which neither the heights at a state nor the falls behind it have a greatest one."""
    ends = words_to([name for name in graph if name in converter.tails], graph)
    ahead, behind = words_to([state], graph), words_from({state: ""}, graph)
    top, rising = rising_ring(part_of(graph, ahead))
    low, falling = rising_ring(part_of(lowered(graph), behind))
    return Beyond(words_from({converter.start: ""}, graph)[top], rising, ahead[top] + behind[low], falling, ends[low])


def lesser_of(heights, falls, state):
    """The lesser of the greatest height at a state and the greatest fall behind it; one of both may have none."""
    if state not in heights:
        return falls[state]
    return heights[state] if state not in falls else min(int(heights[state]), falls[state])


def greatest_extra(converter, graph, heights, falls):
    """The Fits of a converter, by the greatest heights at its states and the greatest falls behind them."""
    lesser = {state: lesser_of(heights, falls, state) for state in graph}
    number = max(0, max([int(lesser[state]) for state in graph]))
    text = least_text(converter)
    tops = [state for state in graph if lesser[state] == number]
    if number > 0:
        back = climb_to(tail_falls(converter, graph), lowered(turned(graph)), tops[0], number)
        text = climb_to({converter.start: 0}, graph, tops[0], number) + back[::-1]
    # Where a height is above the number, the fall is not. Behind such a state a way that does not fall keeps the
    # height above the number, so the fall there is not above it either; a way that falls takes as much off the fall.
    high = words_from({state: "" for state in graph if state not in heights or heights[state] > number}, graph)
    rises = {state: heights[state] for state in graph if state not in high}
    return Fits(number, rises, {state: falls[state] for state in graph if state in high}, text)


def extra(converter):
    """The greatest extra of all taken texts as a Fits, or a Beyond if there is none."""
    check_some_text(converter)
    graph = step_graph(converter)
    heights = heights_from({converter.start: 0}, graph)
    falls = heights_from(tail_falls(converter, graph), lowered(turned(graph)))
    for state in graph:
        if state not in heights and state not in falls:
            return beyond(converter, graph, state)
    return greatest_extra(converter, graph, heights, falls)


def climb_rows(begins, graph, n):
    """The greatest heights that are come to by 0, 1 and so on up to n letters, with their texts."""
    rows = [{node: (begins[node], "") for node in begins}]
    for k in range(n):
        rows.append(climbed(graph, rows[k]))
    return rows


def extra_for(converter, n):
    """The greatest extra of the taken texts of n letters."""
    check_converter(converter)
    if not is_count(n) or n > MOST_FOR_EXTRA:
        raise BadNumber(n)
    graph = step_graph(converter)
    falls = climb_rows(tail_falls(converter, graph), lowered(turned(graph)), n)
    if converter.start not in falls[n]:
        raise NoText(n)
    rises = climb_rows({converter.start: 0}, graph, n)
    most = 0
    for k in range(n + 1):
        for state in rises[k]:
            if state in falls[n - k]:
                most = max(int(most), min(int(rises[k][state][0]), falls[n - k][state][0]))
    return most
