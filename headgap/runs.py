"""The runs of texts: the states that they pass, their heights, and the texts that are taken."""

from headgap.errors import BadNumber
from headgap.kinds import LONGEST_TEXT, is_count
from headgap.ways import check_converter, states_ended, steps_along, useful_states


def run(converter, text):
    """The tuple of the states of the run of a text."""
    steps = steps_along(converter, text)
    return converter.start, *[state for answer, state in steps]


def climbs(converter, text):
    """The tuple of the heights behind 0, 1, 2 and so on letters of a text."""
    heights = [0]
    for answer, _ in steps_along(converter, text):
        heights.append(heights[-1] + len(answer) - 1)
    return tuple(heights)


def useful(converter):
    """The ascending tuple of the useful states."""
    check_converter(converter)
    return useful_states(converter)


def letter_behind(converter, state, last, goals):
    """The least letter behind the last one by which a state leads to one of these; None if none does."""
    for letter in converter.letters:
        if letter > last and (state, letter) in converter.steps and converter.steps[state, letter][1] in goals:
            return letter
    return None


def texts(converter, n):
    """All taken texts of n letters, ascending, each made when it is requested."""
    check_converter(converter)
    if not is_count(n) or n > LONGEST_TEXT:
        raise BadNumber(n)
    rows = states_ended(converter, n)
    if converter.start not in rows[n]:
        return
    word = []
    states = [converter.start]
    last = ""
    while True:
        letter = None
        if len(word) == n:
            yield "".join(word)
        else:
            # Only what can still be ended is begun, so each way down comes to a text.
            letter = letter_behind(converter, states[-1], last, rows[n - len(word) - 1])
        if letter is not None:
            word.append(letter)
            states.append(converter.steps[states[-1], letter][1])
            last = ""
        elif len(word) > 0:
            last = word.pop()
            states.pop()
        else:
            return


def least_text(converter):
    """The first one of the shortest taken texts; None if no text is taken."""
    check_converter(converter)
    words = {converter.start: ""}
    found = [converter.start]
    at = 0
    # States are come to by their shortest texts, and by those of one length in their order.
    while at < len(found):
        state = found[at]
        if state in converter.tails:
            return words[state]
        for letter in converter.letters:
            if (state, letter) in converter.steps:
                _, to = converter.steps[state, letter]
                if to not in words:
                    words[to] = words[state] + letter
                    found.append(to)
        at += 1
    return None
