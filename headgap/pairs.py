"""The parts of converters that are made of the pairs of states of two converters."""

from headgap.errors import TooMany
from headgap.kinds import LETTERS
from headgap.rows import followed


def shared_letter(one, other):
    """The least letter that both converters have, None if there is none."""
    shared = [letter for letter in one.letters if letter in other.letters]
    return shared[0] if len(shared) > 0 else None


def joined_step(one, other, pair, letter):
    """The answer and the pair of a step of one whose answer other reads; None without one."""
    state, reader = pair
    if (state, letter) not in one.steps:
        return None
    answer, to = one.steps[state, letter]
    written, end, many = followed(other, reader, answer)
    return (written, (to, end)) if many == len(answer) else None


def joined_tail(one, other, pair):
    """What other writes for the tail of one, and its own tail behind it; None without one."""
    state, reader = pair
    if state not in one.tails:
        return None
    tail = one.tails[state]
    written, end, many = followed(other, reader, tail)
    if many < len(tail) or end not in other.tails:
        return None
    return written + other.tails[end]


def beside_step(one, other, pair, letter):
    """The answer and the pair of the step of one or of other, whose letters are their own; None without one."""
    first, second = pair
    if (first, letter) in one.steps:
        answer, to = one.steps[first, letter]
        return answer, (to, second)
    if (second, letter) in other.steps:
        answer, to = other.steps[second, letter]
        return answer, (first, to)
    return None


def common_step(one, other, pair, letter):
    """The answer of the step of one and the pair, if other has a step, too; None without one."""
    first, second = pair
    if (first, letter) not in one.steps or (second, letter) not in other.steps:
        return None
    answer, to = one.steps[first, letter]
    _, end = other.steps[second, letter]
    return answer, (to, end)


def pair_step(sign, one, other, pair, letter):
    """The answer and the pair of the step of a pair, as the sign makes it; None without one."""
    if sign == ">>":
        return joined_step(one, other, pair, letter)
    if sign == "|":
        return beside_step(one, other, pair, letter)
    return common_step(one, other, pair, letter)


def pair_tail(sign, one, other, pair):
    """The tail of a pair, as the sign makes it; None without one."""
    if sign == ">>":
        return joined_tail(one, other, pair)
    first, second = pair
    if first not in one.tails or second not in other.tails:
        return None
    return one.tails[first] + other.tails[second] if sign == "|" else one.tails[first]


def check_answers(steps, tails, longest):
    """Raises TooMany if an answer of a step, or a tail, is too long."""
    answers = [steps[key][0] for key in steps] + [tails[state] for state in tails]
    if any([len(answer) > longest for answer in answers]):
        raise TooMany("answer", longest)


def paired(sign, one, other):
    """The start, the steps and the tails of the pairs that are come to; raises TooMany for states and answers."""
    pairs = [(one.start, other.start)]
    letters = [letter for letter in LETTERS if letter in one.letters or letter in other.letters]
    steps = {}
    at = 0
    while at < len(pairs):
        for letter in letters:
            found = pair_step(sign, one, other, pairs[at], letter)
            if found is not None:
                answer, pair = found
                if pair not in pairs:
                    if len(pairs) == one.MOST:
                        raise TooMany("states", one.MOST)
                    pairs.append(pair)
                steps[LETTERS[at], letter] = (answer, LETTERS[pairs.index(pair)])
        at += 1
    tails = {}
    for k, pair in enumerate(pairs):
        tail = pair_tail(sign, one, other, pair)
        if tail is not None:
            tails[LETTERS[k]] = tail
    check_answers(steps, tails, one.LONGEST)
    return LETTERS[0], steps, tails


def repeated_parts(converter, k):
    """The steps and the tails with each answer k times; raises TooMany for answers."""
    steps = {key: (converter.steps[key][0] * k, converter.steps[key][1]) for key in converter.steps}
    tails = {state: converter.tails[state] * k for state in converter.tails}
    check_answers(steps, tails, converter.LONGEST)
    return steps, tails
