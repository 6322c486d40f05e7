"""Walks in graphs: their shortest texts, their greatest heights, and the rings that rise for ever.

A graph is a dict from nodes to their ways, triples of a letter, a weight and the next node.
"""

from headgap.ways import useful_states, useful_steps


def step_graph(converter):
    """The useful states with their useful steps as ways."""
    graph = {state: [] for state in useful_states(converter)}
    steps = useful_steps(converter)
    for state, letter in steps:
        answer, to = steps[state, letter]
        graph[state].append((letter, len(answer) - 1, to))
    return graph


def turned(graph):
    """The graph with each way turned round."""
    found = {node: [] for node in graph}
    for node in graph:
        for letter, weight, to in graph[node]:
            found[to].append((letter, weight, node))
    return found


def lowered(graph):
    """The graph in which what rose falls, and what fell rises."""
    return {node: [(letter, -weight, to) for letter, weight, to in graph[node]] for node in graph}


def part_of(graph, nodes):
    """The graph with these nodes alone, and the ways between them."""
    return {node: [way for way in graph[node] if way[2] in nodes] for node in graph if node in nodes}


def words_from(begins, graph):
    """A shortest text that leads to each node that can be come to; begins tells those of the first nodes."""
    words = {node: begins[node] for node in begins}
    found = [node for node in begins]
    at = 0
    while at < len(found):
        node = found[at]
        for letter, _, to in graph[node]:
            if to not in words:
                words[to] = words[node] + letter
                found.append(to)
        at += 1
    return words


def words_to(goals, graph):
    """A shortest text that leads from each node to one of these, where there is one."""
    words = words_from({node: "" for node in goals}, turned(graph))
    return {node: words[node][::-1] for node in words}


def ring_along(came, node):
    """The ring on which a node lies, by the way that each node was come to last."""
    text = ""
    at = node
    while text == "" or at != node:
        at, letter = came[at]
        text = letter + text
    return node, text


def rising_ring(graph):
    """A node and a text that leads from it back to it with a sum of weights above 0; None if there is none."""
    heights = {node: 0 for node in graph}
    came = {}
    last = None
    for _ in range(len(graph)):
        last = None
        for node in graph:
            for letter, weight, to in graph[node]:
                if heights[node] + weight > heights[to]:
                    heights[to] = heights[node] + weight
                    came[to] = (node, letter)
                    last = to
        if last is None:
            return None
    if last is None:
        return None
    # Without such a ring nothing rises any more in as many rounds as there are nodes. As many ways back from what rose
    # last surely lead into the ring.
    for _ in range(len(graph)):
        last, _ = came[last]
    return ring_along(came, last)


def endless_nodes(graph):
    """The nodes to which rings lead that rise."""
    found = {}
    ring = rising_ring(graph)
    while ring is not None:
        reached = words_from({ring[0]: ""}, graph)
        for node in reached:
            found[node] = True
        ring = rising_ring(part_of(graph, [node for node in graph if node not in found]))
    return found


def heights_from(begins, graph):
    """The greatest heights of walks to nodes, but for those that have no greatest one; begins tells the first ones."""
    endless = endless_nodes(graph)
    heights = {node: begins[node] for node in begins if node not in endless}
    is_settled = False
    while not is_settled:
        is_settled = True
        for node in graph:
            if node in heights:
                for _, weight, to in graph[node]:
                    if to not in endless and (to not in heights or heights[node] + weight > heights[to]):
                        heights[to] = heights[node] + weight
                        is_settled = False
    return heights


def climbed(graph, row):
    """The greatest heights and their texts with one letter more, from those at each node."""
    found = {}
    for node in row:
        height, text = row[node]
        for letter, weight, to in graph[node]:
            if to not in found or height + weight > found[to][0]:
                found[to] = (height + weight, text + letter)
    return found


def climb_to(begins, graph, goal, height):
    """A shortest text that leads to the goal at no less than a height that can be come to there."""
    row = {node: (begins[node], "") for node in begins}
    while goal not in row or row[goal][0] < height:
        row = climbed(graph, row)
    return row[goal][1]
