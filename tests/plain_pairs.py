"""Two converters side by side, and lengths of answers, by their definitions alone, to hold the program against."""

from tests.plain_ways import walk


def is_text(value):
    return type(value) is str and len(value) <= 400 and all("a" <= sign <= "z" for sign in value)


def answer_length(converter, text):
    """How long the answer to a text is, which can be longer than those that can be passed; None if it is not taken."""
    states = walk(converter, text)
    if states is None or states[-1] not in converter.tails:
        return None
    return sum(len(converter.steps[at, sign][0]) for at, sign in zip(states, text)) + len(converter.tails[states[-1]])


def unlike(one, other, text):
    """Whether just one of both takes a text, or the answers are unlike in length."""
    return answer_length(one, text) != answer_length(other, text)


def difference_at(one, other, text):
    """How much longer one's answer is than other's, None if not both take the text."""
    lengths = (answer_length(one, text), answer_length(other, text))
    return None if None in lengths else lengths[0] - lengths[1]


def pair_steps(one, other):
    """The steps of all pairs: pair, letter, how many letters more one writes, next pair."""
    return [((first, second), sign, len(answer) - len(other.steps[second, sign][0]), (to, other.steps[second, sign][1]))
            for (first, sign), (answer, to) in one.steps.items() for second in other.states if (second, sign) in other.steps]


def two_tails(one, other):
    """How much longer the tail of one is than that of other, for all pairs with two tails."""
    return {(first, second): len(one.tails[first]) - len(other.tails[second]) for first in one.tails for second in other.tails}


def useful_pairs(one, other):
    """The pairs through which some text leads that both take."""
    steps = pair_steps(one, other)
    reached, ended = {(one.start, other.start)}, set(two_tails(one, other))
    for _ in range(40):
        reached |= {to for pair, _, _, to in steps if pair in reached}
        ended |= {pair for pair, _, _, to in steps if to in ended}
    return reached & ended


def greatest_differences(one, other, most):
    """For each n from 0 to most the greatest difference at the texts of n letters that both take, None without one."""
    steps, ends = pair_steps(one, other), two_tails(one, other)
    row = {(one.start, other.start): 0}
    found = []
    for _ in range(most + 1):
        found.append(max([row[pair] + ends[pair] for pair in row if pair in ends], default=None))
        later = {}
        for pair, _, more, to in steps:
            if pair in row:
                later[to] = max(later.get(to, row[pair] + more), row[pair] + more)
        row = later
    return found


def is_right_enough(one, other, number, heights, text):
    """Whether this is an Enough as the document tells it for two converters."""
    if type(number) is not int or type(heights) is not dict or not is_text(text):
        return False
    if difference_at(one, other, text) != number:
        return False
    useful, ends = useful_pairs(one, other), two_tails(one, other)
    if any(type(heights.get(pair)) is not int for pair in useful) or heights[one.start, other.start] < 0:
        return False
    if any(heights[to] < heights[pair] + more for pair, _, more, to in pair_steps(one, other)
           if pair in useful and to in useful):
        return False
    return all(heights[pair] + ends[pair] <= number for pair in useful if pair in ends)


def is_right_never(one, other, ahead, ring, behind):
    """Whether this is a Never as the document tells it for two converters."""
    if not all(is_text(part) for part in (ahead, ring, behind)) or ring == "":
        return False
    told = [difference_at(one, other, ahead + ring * k + behind) for k in range(4)]
    if None in told or not told[0] < told[1] < told[2] < told[3]:
        return False
    return all(walk(converter, ahead + ring)[-1] == walk(converter, ahead)[-1] for converter in (one, other))


def first_apart(one, other, most):
    """The first one of the shortest texts of at most so many letters to which two are unlike, None without one.

    Of texts that come to the same two states with the same difference, the first one is kept.
    """
    letters = sorted({*one.letters, *other.letters})
    rows = [("", one.start, other.start, 0)]
    for _ in range(most + 1):
        for text, first, second, _ in rows:
            if unlike(one, other, text):
                return text
        later = {}
        for text, first, second, more in rows:
            for sign in letters:
                answer, to = one.steps.get((first, sign), ("", None))
                less, end = other.steps.get((second, sign), ("", None))
                later.setdefault((to, end, more + len(answer) - len(less)), text + sign)
        rows = [(text, *key) for key, text in later.items()]
    return None


def cost_of_cut(converter, text, at):
    """The cost of a cut of a text of any length, None if it cannot be made there."""
    lengths = [answer_length(converter, part) for part in (text, text[:at], text[at:])]
    return None if None in lengths else lengths[1] + lengths[2] - lengths[0]


def is_right_endless_cut(converter, text, at, ring, behind):
    """Whether this is an EndlessCut as the document tells it, be its texts as long as they can be."""
    if not all(is_text(part) for part in (text, ring, behind)) or type(at) is not int or not 0 <= at <= len(text):
        return False
    costs = [cost_of_cut(converter, text + ring * k + behind, at) for k in range(4)]
    if None in costs or not costs[0] < costs[1] < costs[2] < costs[3]:
        return False
    return all(walk(converter, begin + ring)[-1] == walk(converter, begin)[-1] for begin in (text, text[at:]))
