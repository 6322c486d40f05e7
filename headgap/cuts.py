"""What it costs to cut a text in pieces that are converted each by itself."""

from headgap.errors import BadNumber, BadWord, NoStep, NoTail
from headgap.gaps import check_some_text
from headgap.held import copied, same
from headgap.kinds import is_count, is_text
from headgap.pair_walks import pair_graph, pair_tails
from headgap.papers import Verdict
from headgap.rows import followed
from headgap.walks import climb_to, heights_from, rising_ring, step_graph, turned, words_from, words_to
from headgap.ways import check_converter, useful_states


class Cut(Verdict):
    """A paper: the greatest cost of a cut, heights that show that none is greater, and a text cut at a place."""

    def __init__(self, number, heights, text, at):
        self.number = copied(number)
        self.heights = copied(heights)
        self.text = copied(text)
        self.at = copied(at)

    def __eq__(self, other):
        return (isinstance(other, Cut) and same(self.number, other.number) and same(self.heights, other.heights)
                and same(self.text, other.text) and same(self.at, other.at))

    def __bool__(self):
        return True


class EndlessCut(Verdict):
    """A paper: a text, the place of its cut, a ring behind it that makes the cut dearer each time, and an end."""

    def __init__(self, text, at, ring, behind):
        self.text = copied(text)
        self.at = copied(at)
        self.ring = copied(ring)
        self.behind = copied(behind)

    def __eq__(self, other):
        return (isinstance(other, EndlessCut) and same(self.text, other.text) and same(self.at, other.at)
                and same(self.ring, other.ring) and same(self.behind, other.behind))

    def __bool__(self):
        return False


def piece(converter, text, begin, end):
    """The answer to a piece of a text; at of NoStep is told in the whole text."""
    written, state, many = followed(converter, converter.start, text[begin:end])
    if many < end - begin:
        raise NoStep(begin + many, state)
    if state not in converter.tails:
        raise NoTail(state)
    return written + converter.tails[state]


def pieces(converter, text, *places):
    """The tuple of the answers to the pieces of a text that is cut at these places."""
    check_converter(converter)
    if not is_text(text):
        raise BadWord(text)
    last = 0
    for place in places:
        if not is_count(place) or place < last or place > len(text):
            raise BadNumber(place)
        last = place
    found = []
    begin = 0
    for end in [*places, len(text)]:
        found.append(piece(converter, text, begin, end))
        begin = end
    return tuple(found)


def cost(converter, text, at):
    """How many letters more are written if a text is cut at a place."""
    check_converter(converter)
    whole = converter(text)
    return len("".join(pieces(converter, text, at))) - len(whole)


def endless_cut(graph, ahead, firsts, ends, ring):
    """The EndlessCut of a ring of pairs that makes a cut dearer; firsts are the pairs behind a cut."""
    pair, text = ring
    ways = words_to([pair], graph)
    first = [at for at in firsts if at in ways][0]
    begin = ahead[first[0]]
    return EndlessCut(begin + ways[first], len(begin), text, words_to(list(ends), graph)[pair])


def cut_graph(converter):
    """The graph of the pairs behind cuts that are left."""
    begins = [(state, converter.start) for state in useful_states(converter) if state in converter.tails]
    return pair_graph(converter, converter, begins)


def first_pairs(converter, graph):
    """The pairs that are left just behind a cut."""
    return [pair for pair in graph if pair[0] in converter.tails and pair[1] == converter.start]


def dearest_cut(converter):
    """The greatest cost of a cut as a Cut, an EndlessCut if there is none; None if no text can be cut."""
    check_some_text(converter)
    graph = cut_graph(converter)
    firsts = first_pairs(converter, graph)
    if len(firsts) == 0:
        return None
    ahead = words_from({converter.start: ""}, step_graph(converter))
    ends = pair_tails(converter, converter, graph)
    ring = rising_ring(graph)
    if ring is not None:
        return endless_cut(graph, ahead, firsts, ends, ring)
    heights = heights_from(ends, turned(graph))
    number = max([int(len(converter.tails[pair[0]]) + heights[pair]) for pair in firsts])
    best = [pair for pair in firsts if len(converter.tails[pair[0]]) + heights[pair] == number][0]
    begin = ahead[best[0]]
    text = begin + climb_to(ends, turned(graph), best, heights[best])[::-1]
    return Cut(number, heights, text, len(begin))
