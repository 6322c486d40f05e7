"""Whether what is told of the greatest extra is right: rises, losses and a text, or rings that can be repeated."""

from headgap.arrays import Beyond, Fits, extra_of
from headgap.gaps import check_some_text
from headgap.kinds import is_integer, is_text
from headgap.rows import followed
from headgap.walks import step_graph


def are_bounded(graph, number, rises, losses):
    """Whether any values are dicts from just the nodes, each in one of both, to integers of at most a number."""
    if not isinstance(rises, dict) or not isinstance(losses, dict) or len(rises) + len(losses) != len(graph):
        return False
    for state in graph:
        if (state in rises) == (state in losses):
            return False
        worth = rises[state] if state in rises else losses[state]
        if not is_integer(worth) or worth > number:
            return False
    return True


def leads_on(rises, losses, state, weight, to):
    """Whether a step leads to a state as rises and losses must tell."""
    if state in rises:
        return to in losses or rises[to] >= rises[state] + weight
    return to in losses and losses[to] <= losses[state] + weight


def are_right(converter, number, rises, losses):
    """Whether any values are rises and losses that show that no extra is above the number."""
    graph = step_graph(converter)
    if not are_bounded(graph, number, rises, losses):
        return False
    for state in graph:
        if not all([leads_on(rises, losses, state, weight, to) for letter, weight, to in graph[state]]):
            return False
        if state in losses and state in converter.tails and losses[state] < -len(converter.tails[state]):
            return False
    return converter.start in losses or rises[converter.start] >= 0


def is_fitting(converter, value):
    """Whether a Fits is right."""
    if not is_integer(value.number) or not converter.takes(value.text):
        return False
    if extra_of(converter, value.text) != value.number:
        return False
    return are_right(converter, value.number, value.rises, value.losses)


def weight_round(converter, state, text):
    """The sum of the weights of a text that leads from a state back to it; None if it leads to another one."""
    written, end, _ = followed(converter, state, text)
    return len(written) - len(text) if end == state else None


def is_beyond(converter, value):
    """Whether a Beyond is right."""
    parts = (value.ahead, value.rising, value.between, value.falling, value.behind)
    # Joined they are one text, so they have no more letters together than a text can have.
    if not all([is_text(part) for part in parts]) or not converter.takes("".join(parts)):
        return False
    _, top, _ = followed(converter, converter.start, value.ahead)
    _, low, _ = followed(converter, top, value.rising + value.between)
    rise, fall = weight_round(converter, top, value.rising), weight_round(converter, low, value.falling)
    return rise is not None and rise > 0 and fall is not None and fall < 0


def shows_extra(converter, value):
    """Whether any value is right as what extra tells."""
    check_some_text(converter)
    if isinstance(value, Fits):
        return is_fitting(converter, value)
    return isinstance(value, Beyond) and is_beyond(converter, value)
