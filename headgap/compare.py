"""Two converters that read the same texts: how much longer one answers, and what text tells them apart."""

from headgap.converters import Converter
from headgap.errors import BadConverter
from headgap.gaps import Enough, Never
from headgap.kinds import LETTERS, is_integer, is_text
from headgap.pair_walks import pair_graph, pair_tails
from headgap.walks import climb_to, heights_from, lowered, rising_ring, words_from, words_to
from headgap.ways import written_round


def check_both(one, other):
    """Raises BadConverter for any values of which one is no Converter."""
    if not isinstance(one, Converter):
        raise BadConverter("one")
    if not isinstance(other, Converter):
        raise BadConverter("other")


def difference_graph(one, other):
    """The graph of the useful pairs; a way weighs how many letters more are written by one than by other."""
    return lowered(pair_graph(one, other, [(one.start, other.start)]))


def tail_differences(one, other, graph):
    """How many letters the tail of one has more than that of other, for the pairs with two tails."""
    ends = pair_tails(one, other, graph)
    return {pair: -ends[pair] for pair in ends}


def difference(one, other):
    """The greatest difference as an Enough, a Never if there is none; None if no text is taken by both."""
    check_both(one, other)
    graph = difference_graph(one, other)
    if len(graph) == 0:
        return None
    start = (one.start, other.start)
    ends = tail_differences(one, other, graph)
    ring = rising_ring(graph)
    if ring is not None:
        pair, text = ring
        return Never(words_from({start: ""}, graph)[pair], text, words_to(list(ends), graph)[pair])
    heights = heights_from({start: 0}, graph)
    number = max([int(heights[pair] + ends[pair]) for pair in ends])
    best = [pair for pair in ends if heights[pair] + ends[pair] == number][0]
    return Enough(number, heights, climb_to({start: 0}, graph, best, heights[best]))


def are_heights(one, other, number, heights):
    """Whether any value tells heights of the useful pairs, such that no difference is above the number."""
    graph = difference_graph(one, other)
    if not isinstance(heights, dict):
        return False
    for pair in graph:
        if pair not in heights or not is_integer(heights[pair]):
            return False
    for pair in graph:
        for _, more, to in graph[pair]:
            if heights[to] < heights[pair] + more:
                return False
    ends = tail_differences(one, other, graph)
    return heights[one.start, other.start] >= 0 and all([heights[pair] + ends[pair] <= number for pair in ends])


def is_enough(one, other, value):
    """Whether an Enough is right."""
    if not is_integer(value.number) or not one.takes(value.text) or not other.takes(value.text):
        return False
    if len(one(value.text)) - len(other(value.text)) != value.number:
        return False
    return are_heights(one, other, value.number, value.heights)


def is_never(one, other, value):
    """Whether a Never is right."""
    if not all([is_text(part) for part in (value.ahead, value.ring, value.behind)]):
        return False
    more = written_round(one, value.ahead, value.ring, value.behind)
    less = written_round(other, value.ahead, value.ring, value.behind)
    return more is not None and less is not None and more > less


def shows_difference(one, other, value):
    """Whether any value is right as what difference tells."""
    check_both(one, other)
    if value is None:
        return len(difference_graph(one, other)) == 0
    if isinstance(value, Enough):
        return is_enough(one, other, value)
    return isinstance(value, Never) and is_never(one, other, value)


def never_longer(one, other):
    """Whether no text that both take has a longer answer by one."""
    told = difference(one, other)
    if told is None:
        return True
    return isinstance(told, Enough) and told.number <= 0


def behind(converter, state, letter):
    """How many letters a step writes, and the next state; no state without a step, from no state on either."""
    if (state, letter) not in converter.steps:
        return 0, None
    answer, to = converter.steps[state, letter]
    return len(answer), to


def node_behind(one, other, node, letter):
    """Both states behind a letter, and how much more one has written; that means nothing if one state is none."""
    first, second, more = node
    longer, to = behind(one, first, letter)
    shorter, end = behind(other, second, letter)
    return to, end, 0 if to is None or end is None else more + longer - shorter


def is_apart(one, other, node):
    """Whether just one of both takes the texts that come to a node, or the answers are unlike in length."""
    first, second, more = node
    if first in one.tails and second in other.tails:
        return more + len(one.tails[first]) != len(other.tails[second])
    return first in one.tails or second in other.tails


def apart(one, other):
    """The first one of the shortest texts that tell both apart; None if there is none."""
    check_both(one, other)
    letters = [letter for letter in LETTERS if letter in one.letters or letter in other.letters]
    words = {(one.start, other.start, 0): ""}
    found = [(one.start, other.start, 0)]
    many = {}
    at = 0
    while at < len(found):
        if is_apart(one, other, found[at]):
            return words[found[at]]
        for letter in letters:
            node = node_behind(one, other, found[at], letter)
            pair = (node[0], node[1])
            # Two differences at a pair are enough: what tells both apart behind a third one does so behind one of
            # these, which are come to by earlier texts.
            if pair != (None, None) and node not in words and many.get(pair, 0) < 2:
                many[pair] = many.get(pair, 0) + 1
                words[node] = words[found[at]] + letter
                found.append(node)
        at += 1
    return None


def alike_in_length(one, other):
    """Whether no text tells both apart."""
    return apart(one, other) is None
