"""Whether what is told of the greatest gap is right: heights and a text, or a ring that can be repeated."""

from headgap.gaps import Enough, Never, check_some_text, gap_of
from headgap.kinds import is_integer, is_text
from headgap.rows import followed
from headgap.walks import step_graph


def are_heights(converter, number, heights):
    """Whether any value tells the heights of just the useful states, such that no gap is above the number."""
    graph = step_graph(converter)
    if not isinstance(heights, dict) or len(heights) != len(graph):
        return False
    for state in graph:
        if state not in heights or not is_integer(heights[state]):
            return False
    for state in graph:
        if len(graph[state]) > 0 and heights[state] > number:
            return False
        for _, weight, to in graph[state]:
            if heights[to] < heights[state] + weight:
                return False
    return heights[converter.start] >= 0


def is_enough(converter, value):
    """Whether an Enough is right."""
    if not is_integer(value.number) or not converter.takes(value.text):
        return False
    return gap_of(converter, value.text) == value.number and are_heights(converter, value.number, value.heights)


def is_never(converter, value):
    """Whether a Never is right."""
    if not all([is_text(part) for part in (value.ahead, value.ring, value.behind)]):
        return False
    # Joined they are one text, so they have no more letters together than a text can have.
    if not converter.takes(value.ahead + value.ring + value.behind):
        return False
    _, state, _ = followed(converter, converter.start, value.ahead)
    written, end, _ = followed(converter, state, value.ring)
    return end == state and len(written) > len(value.ring)


def shows_gap(converter, value):
    """Whether any value is right as what gap tells."""
    check_some_text(converter)
    if isinstance(value, Enough):
        return is_enough(converter, value)
    return isinstance(value, Never) and is_never(converter, value)
