"""Arrays, extras and cuts by their definitions alone, to hold the program against."""

from itertools import product

from tests.plain_sizes import useful_of, useful_steps
from tests.plain_ways import walk


def converted(converter, text, size):
    """The answer to a text at the end of so many cells, converted cell by cell; None if it cannot be done there."""
    if size < len(text):
        return None
    cells = [None] * (size - len(text)) + list(text)
    reader, writer, state = size - len(text), 0, converter.start
    unread = set(range(reader, size))
    for _ in text:
        letter, reader = cells[reader], reader + 1
        unread.discard(reader - 1)
        answer, state = converter.steps[state, letter]
        for sign in answer:
            if writer in unread or writer >= size:
                return None
            cells[writer], writer = sign, writer + 1
    for sign in converter.tails[state]:
        if writer >= size:
            return None
        cells[writer], writer = sign, writer + 1
    return "".join(cells[:writer])


def array_by_cells(converter, text):
    """How many cells the least array for a taken text has."""
    size = 0
    while converted(converter, text, size) is None:
        size += 1
    assert converted(converter, text, size) == converter(text)
    return size


def extra_by_cells(converter, text):
    """How many more these are than the longer of text and answer has letters."""
    return array_by_cells(converter, text) - max(len(text), len(converter(text)))


def greatest_extras(converter, most):
    """For each n from 0 to most the greatest extra of the taken texts of n letters, None without one.

    For each number from 1 on it is asked whether a text has a height of at least the number at some place, and as
    great a fall behind it.
    """
    useful, steps = useful_of(converter), useful_steps(converter)
    ups = [{converter.start: 0} if converter.start in useful else {}]
    downs = [{state: -len(converter.tails[state]) for state in useful if state in converter.tails}]
    for _ in range(most):
        up, down = {}, {}
        for state, _, answer, to in steps:
            weight = len(answer) - 1
            if state in ups[-1]:
                up[to] = max(up.get(to, -10 ** 9), ups[-1][state] + weight)
            if to in downs[-1]:
                down[state] = max(down.get(state, -10 ** 9), downs[-1][to] - weight)
        ups.append(up)
        downs.append(down)
    found = []
    for n in range(most + 1):
        worths = [min(ups[k][state], downs[n - k][state]) for k in range(n + 1) for state in ups[k]
                  if state in downs[n - k]]
        found.append(max([0, *worths]) if converter.start in downs[n] else None)
    return found


def is_text(value):
    return type(value) is str and len(value) <= 400 and all("a" <= sign <= "z" for sign in value)


def left_pairs(converter):
    """The pairs that are left, with their ways (letter, more, pair), and the first ones of them."""
    begins = [(state, converter.start) for state in useful_of(converter) if state in converter.tails]
    reached = set(begins)
    for _ in range(36):
        for first, second in list(reached):
            for letter in converter.letters:
                if (first, letter) in converter.steps and (second, letter) in converter.steps:
                    reached.add((converter.steps[first, letter][1], converter.steps[second, letter][1]))
    ended = {pair for pair in reached if pair[0] in converter.tails and pair[1] in converter.tails}
    ways = []
    for (first, second), letter in product(reached, converter.letters):
        if (first, letter) in converter.steps and (second, letter) in converter.steps:
            (one, to), (two, end) = converter.steps[first, letter], converter.steps[second, letter]
            ways.append(((first, second), letter, len(two) - len(one), (to, end)))
    for _ in range(36):
        ended |= {pair for pair, _, _, to in ways if to in ended}
    ways = [way for way in ways if way[0] in ended and way[3] in ended]
    return {pair: [way[1:] for way in ways if way[0] == pair] for pair in ended}, [pair for pair in begins if pair in ended]


def cost_by_words(converter, text, at):
    """The cost of a cut, None if it cannot be made there."""
    if not all(converter.takes(part) for part in (text, text[:at], text[at:])):
        return None
    return len(converter(text[:at])) + len(converter(text[at:])) - len(converter(text))


def is_right_cut(converter, number, heights, text, at):
    """Whether this is a Cut as the document tells it."""
    if type(number) is not int or type(heights) is not dict or not is_text(text) or type(at) is not int:
        return False
    if not 0 <= at <= len(text) or cost_by_words(converter, text, at) != number:
        return False
    left, firsts = left_pairs(converter)
    for pair, ways in left.items():
        if type(heights.get(pair)) is not int:
            return False
        if pair[0] in converter.tails and pair[1] in converter.tails:
            if heights[pair] < len(converter.tails[pair[1]]) - len(converter.tails[pair[0]]):
                return False
    if any(heights[pair] < more + heights[to] for pair, ways in left.items() for _, more, to in ways):
        return False
    return all(len(converter.tails[pair[0]]) + heights[pair] <= number for pair in firsts)


def is_right_endless_cut(converter, text, at, ring, behind):
    """Whether this is an EndlessCut as the document tells it."""
    if not all(is_text(part) for part in (text, ring, behind)) or type(at) is not int or not 0 <= at <= len(text):
        return False
    costs = [cost_by_words(converter, text + ring * k + behind, at) for k in range(4)]
    if None in costs or not costs[0] < costs[1] < costs[2] < costs[3] or walk(converter, text[at:]) is None:
        return False
    for states in (walk(converter, text + ring), walk(converter, text[at:] + ring)):
        if states[-1] != states[-1 - len(ring)]:
            return False
    return True
