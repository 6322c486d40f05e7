"""How many free cells must lie ahead of a text: the gaps of texts, and the greatest gap of all, with what shows it."""

from headgap.errors import BadNumber, NoText
from headgap.growths import Growth
from headgap.held import copied, same
from headgap.kinds import is_count
from headgap.papers import Verdict
from headgap.runs import climbs, least_text
from headgap.tables import growth_at_start
from headgap.walks import climb_to, heights_from, rising_ring, step_graph, words_from, words_to
from headgap.ways import check_converter


class Enough(Verdict):
    """A paper: a greatest number, heights that show that nothing is greater, and a text that comes to it."""

    def __init__(self, number, heights, text):
        self.number = copied(number)
        self.heights = copied(heights)
        self.text = copied(text)

    def __eq__(self, other):
        return (isinstance(other, Enough) and same(self.number, other.number) and same(self.heights, other.heights)
                and same(self.text, other.text))

    def __bool__(self):
        return True


class Never(Verdict):
    """A paper: texts of which the one in the midst can be repeated, and comes to more each time."""

    def __init__(self, ahead, ring, behind):
        self.ahead = copied(ahead)
        self.ring = copied(ring)
        self.behind = copied(behind)

    def __eq__(self, other):
        return (isinstance(other, Never) and same(self.ahead, other.ahead) and same(self.ring, other.ring)
                and same(self.behind, other.behind))

    def __bool__(self):
        return False


def gap_of(converter, text):
    """The gap of a taken text."""
    heights = climbs(converter, text)
    # The run of a text that is not taken has heights, too: the converter itself refuses it.
    converter(text)
    return max([int(height) for height in heights[:-1]], default=0)


def check_some_text(converter):
    """Raises BadConverter; NoText if no text is taken."""
    check_converter(converter)
    if least_text(converter) is None:
        raise NoText(None)


def greatest_gap(converter, graph, ends):
    """The Enough of a converter without rings that rise; ends are texts that lead from its states to tails."""
    begins = {converter.start: 0}
    heights = heights_from(begins, graph)
    # The height at a state counts only if a letter is still to be read there.
    number = max([int(heights[state]) for state in graph if len(graph[state]) > 0], default=0)
    tops = [state for state in graph if len(graph[state]) > 0 and heights[state] == number]
    if len(tops) == 0:
        return Enough(number, heights, ends[converter.start])
    letter, _, to = graph[tops[0]][0]
    return Enough(number, heights, climb_to(begins, graph, tops[0], number) + letter + ends[to])


def gap(converter):
    """The greatest gap of all taken texts as an Enough, or a Never if there is none."""
    check_some_text(converter)
    graph = step_graph(converter)
    ends = words_to([state for state in graph if state in converter.tails], graph)
    ring = rising_ring(graph)
    if ring is None:
        return greatest_gap(converter, graph, ends)
    state, text = ring
    return Never(words_from({converter.start: ""}, graph)[state], text, ends[state])


def gap_for(converter):
    """The growth of the greatest gap of the taken texts of n letters."""
    check_converter(converter)
    return growth_at_start(converter, "gap")


def safe_length(converter, cells):
    """The greatest n such that no taken text of at most n letters has a gap above so many cells; None without one."""
    check_converter(converter)
    if not is_count(cells):
        raise BadNumber(cells)
    place = gap_for(converter).first_above(Growth.constant(cells))
    return None if place is None else place - 1
