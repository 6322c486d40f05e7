"""The graphs of two converters that read the same letters: their nodes are pairs of states."""

from headgap.walks import part_of, words_to


def pair_ways(one, other, pair):
    """The ways of a pair: the letters for which both states have steps, and what other writes less what one does."""
    first, second = pair
    found = []
    for letter in one.letters:
        if (first, letter) in one.steps and (second, letter) in other.steps:
            less, to = one.steps[first, letter]
            more, end = other.steps[second, letter]
            found.append((letter, len(more) - len(less), (to, end)))
    return found


def pair_graph(one, other, begins):
    """The graph of the pairs that are come to from these and from which some text leads to two tails."""
    graph = {}
    found = list(begins)
    at = 0
    while at < len(found):
        graph[found[at]] = pair_ways(one, other, found[at])
        for way in graph[found[at]]:
            if way[2] not in found:
                found.append(way[2])
        at += 1
    return part_of(graph, words_to(list(pair_tails(one, other, graph)), graph))


def pair_tails(one, other, graph):
    """How many letters the tail of other has more than that of one, for the pairs with two tails."""
    return {pair: len(other.tails[pair[1]]) - len(one.tails[pair[0]]) for pair in graph
            if pair[0] in one.tails and pair[1] in other.tails}
