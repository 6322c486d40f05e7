"""Whether what is told of the dearest cut is right: heights and a text cut at a place, or a ring behind a cut."""

from headgap.cuts import Cut, EndlessCut, cost, cut_graph, first_pairs
from headgap.gaps import check_some_text
from headgap.kinds import is_count, is_integer, is_text
from headgap.pair_walks import pair_tails
from headgap.ways import written_round


def are_heights(converter, number, heights):
    """Whether any value tells heights of the pairs that are left, such that no cut costs more than the number."""
    graph = cut_graph(converter)
    if not isinstance(heights, dict):
        return False
    for pair in graph:
        if pair not in heights or not is_integer(heights[pair]):
            return False
    ends = pair_tails(converter, converter, graph)
    for pair in graph:
        if pair in ends and heights[pair] < ends[pair]:
            return False
        for _, more, to in graph[pair]:
            if heights[pair] < heights[to] + more:
                return False
    return all([len(converter.tails[pair[0]]) + heights[pair] <= number for pair in first_pairs(converter, graph)])


def is_place(text, at):
    """Whether any values are a text and a place at which it can be cut in two."""
    return is_text(text) and is_count(at) and at <= len(text)


def is_cut(converter, value):
    """Whether a Cut is right."""
    if not is_integer(value.number) or not is_place(value.text, value.at):
        return False
    if not all([converter.takes(part) for part in (value.text, value.text[:value.at], value.text[value.at:])]):
        return False
    if cost(converter, value.text, value.at) != value.number:
        return False
    return are_heights(converter, value.number, value.heights)


def is_endless_cut(converter, value):
    """Whether an EndlessCut is right."""
    if not is_place(value.text, value.at) or not is_text(value.ring) or not is_text(value.behind):
        return False
    # The three together, and with the ring many times, have more letters than a text that can be passed.
    whole = written_round(converter, value.text, value.ring, value.behind)
    second = written_round(converter, value.text[value.at:], value.ring, value.behind)
    if whole is None or second is None:
        return False
    return second > whole and converter.takes(value.text[:value.at])


def shows_cut(converter, value):
    """Whether any value is right as a Cut or an EndlessCut that dearest_cut tells."""
    check_some_text(converter)
    if isinstance(value, Cut):
        return is_cut(converter, value)
    return isinstance(value, EndlessCut) and is_endless_cut(converter, value)
