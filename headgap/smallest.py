"""The smallest machine that tells the lengths of the answers of a converter, each counted as early as can be."""

from headgap.errors import BadPaper, BadWord
from headgap.held import copied, same
from headgap.kinds import is_count, is_letter, is_pair, is_text
from headgap.ways import check_converter, useful_states, useful_steps


class Lengths:
    """A paper: the lengths of answers, as a first number, and numbers of the steps and tails of numbered states."""

    def __init__(self, first, steps, tails):
        self.first = copied(first)
        self.steps = copied(steps)
        self.tails = copied(tails)

    def __eq__(self, other):
        return (isinstance(other, Lengths) and same(self.first, other.first) and same(self.steps, other.steps)
                and same(self.tails, other.tails))


def least_rests(converter, steps):
    """How many letters are surely written from each useful state on."""
    states = useful_states(converter)
    rests = {state: len(converter.tails[state]) for state in states if state in converter.tails}
    # The least is written without coming to a state twice.
    for _ in states:
        for state, letter in steps:
            answer, to = steps[state, letter]
            if to in rests and (state not in rests or rests[to] + len(answer) < rests[state]):
                rests[state] = rests[to] + len(answer)
    return rests


def counted_steps(steps, rests):
    """The steps with their numbers: what is surely written behind a step is counted with it, or ahead of it."""
    found = {}
    for state, letter in steps:
        answer, to = steps[state, letter]
        found[state, letter] = (len(answer) + rests[to] - rests[state], to)
    return found


def marks_of(converter, steps, tails, kinds):
    """What can be seen of each state by its tail and its steps, if of the next states only the kinds are known."""
    marks = {}
    for state in kinds:
        seen = []
        for letter in converter.letters:
            if (state, letter) in steps:
                number, to = steps[state, letter]
                seen.append((number, kinds[to]))
            else:
                seen.append(None)
        marks[state] = (tails[state] if state in tails else None, tuple(seen))
    return marks


def kinds_of(converter, steps, tails):
    """A number for each useful state, the same one for those that can be one."""
    kinds = {state: 0 for state in useful_states(converter)}
    many = 0
    while True:
        marks = marks_of(converter, steps, tails, kinds)
        numbers = {}
        for state in marks:
            numbers.setdefault(marks[state], len(numbers))
        # Each round parts what the one ahead parted; if it parts no more, nothing does.
        if len(numbers) == many:
            return kinds
        many = len(numbers)
        kinds = {state: numbers[marks[state]] for state in marks}


def ordered(converter, steps, kinds):
    """A state of each kind, in the order in which the kinds are met."""
    found = [converter.start]
    met = [kinds[converter.start]]
    at = 0
    while at < len(found):
        for letter in converter.letters:
            if (found[at], letter) in steps:
                _, to = steps[found[at], letter]
                if kinds[to] not in met:
                    found.append(to)
                    met.append(kinds[to])
        at += 1
    return found


def smallest(converter):
    """The Lengths of a converter."""
    check_converter(converter)
    rests = least_rests(converter, useful_steps(converter))
    if len(rests) == 0:
        return Lengths(0, {}, {})
    steps = counted_steps(useful_steps(converter), rests)
    tails = {state: len(converter.tails[state]) - rests[state] for state in rests if state in converter.tails}
    kinds = kinds_of(converter, steps, tails)
    states = ordered(converter, steps, kinds)
    numbers = {kinds[state]: k for k, state in enumerate(states)}
    numbered = {}
    for state, letter in steps:
        if state in states:
            number, to = steps[state, letter]
            numbered[states.index(state), letter] = (number, numbers[kinds[to]])
    ends = {k: tails[state] for k, state in enumerate(states) if state in tails}
    return Lengths(rests[converter.start], numbered, ends)


def are_counted_steps(steps):
    """Whether any value can be the steps of a Lengths."""
    if not isinstance(steps, dict):
        return False
    for key in steps:
        goal = steps[key]
        if not is_pair(key) or not is_count(key[0]) or not is_letter(key[1]):
            return False
        if not is_pair(goal) or not is_count(goal[0]) or not is_count(goal[1]):
            return False
    return True


def check_lengths(lengths):
    """Raises BadPaper for any value that is no Lengths by which texts can be counted."""
    if not isinstance(lengths, Lengths) or not is_count(lengths.first) or not are_counted_steps(lengths.steps):
        raise BadPaper("lengths")
    if not isinstance(lengths.tails, dict):
        raise BadPaper("lengths")
    for state in lengths.tails:
        if not is_count(state) or not is_count(lengths.tails[state]):
            raise BadPaper("lengths")


def counted(lengths, text):
    """The length that a Lengths tells for a text; None if it does not take it."""
    check_lengths(lengths)
    if not is_text(text):
        raise BadWord(text)
    written, state = lengths.first, 0
    for letter in text:
        if (state, letter) not in lengths.steps:
            return None
        number, to = lengths.steps[state, letter]
        written, state = written + number, to
    return written + lengths.tails[state] if state in lengths.tails else None
