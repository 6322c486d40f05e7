"""The parts of converters, beginnings, steps and tails: what they can be, how they are followed and written."""

from headgap.errors import BadText
from headgap.kinds import is_answer, is_letter, is_name, is_pair


def is_goal(value):
    """Whether any value is a pair of an answer and a state."""
    return is_pair(value) and is_answer(value[0]) and is_name(value[1])


def are_steps(steps):
    """Whether any value can be the steps of a converter."""
    if not isinstance(steps, dict):
        return False
    for key in steps:
        if not is_pair(key) or not is_name(key[0]) or not is_letter(key[1]) or not is_goal(steps[key]):
            return False
    return True


def are_tails(tails):
    """Whether any value can be the tails of a converter."""
    return isinstance(tails, dict) and all([is_name(name) and is_answer(tails[name]) for name in tails])


def is_row(row):
    """Whether any value can be the row of a state: its steps by their letters, and its tail."""
    if not isinstance(row, dict):
        return False
    for key in row:
        if key == "" and not is_answer(row[key]):
            return False
        if key != "" and (not is_letter(key) or not is_goal(row[key])):
            return False
    return True


def state_names(start, steps, tails):
    """The ascending tuple of all names that stand in these parts."""
    names = {start: True}
    for state, letter in steps:
        _, to = steps[state, letter]
        names[state] = True
        names[to] = True
    for state in tails:
        names[state] = True
    return tuple(sorted([str(name) for name in names]))


def step_letters(steps):
    """The ascending tuple of the letters of steps."""
    found = {letter: True for state, letter in steps}
    return tuple(sorted([str(letter) for letter in found]))


def followed(converter, start, text):
    """What is written from a state on, the state come to, and how many letters have steps."""
    written, state = "", start
    for at, letter in enumerate(text):
        if (state, letter) not in converter.steps:
            return written, state, at
        answer, to = converter.steps[state, letter]
        written, state = written + answer, to
    return written, state, len(text)


def part_words(converter):
    """The words in which a converter is written."""
    words = [f"@{converter.start}"]
    for state in converter.states:
        for letter in converter.letters:
            if (state, letter) in converter.steps:
                answer, to = converter.steps[state, letter]
                words.append(f"{state}:{letter}>{answer}>{to}")
    for state in converter.states:
        if state in converter.tails:
            words.append(f"{state}${converter.tails[state]}")
    return words


def read_step(word):
    """The key and the goal of the step that a word tells, None if it tells none."""
    state, _, rest = word.partition(":")
    letter, _, goal = rest.partition(">")
    answer, _, to = goal.partition(">")
    if is_name(state) and is_letter(letter) and is_answer(answer) and is_name(to):
        return (state, letter), (answer, to)
    return None


def read_tail(word):
    """The state and the tail that a word tells, None if it tells none."""
    state, sign, answer = word.partition("$")
    if sign == "$" and is_name(state) and is_answer(answer):
        return state, answer
    return None


def read_parts(text):
    """The start, the steps and the tails of a text; raises BadText."""
    if not isinstance(text, str):
        raise BadText(0, 0)
    words = text.split(" ")
    if not words[0].startswith("@") or not is_name(words[0][1:]):
        raise BadText(0, 0)
    steps = {}
    tails = {}
    last_step, last_tail = ("", ""), ""
    for at, word in enumerate(words[1:]):
        step = read_step(word)
        tail = read_tail(word) if step is None else None
        if step is not None and last_tail == "" and step[0] > last_step:
            last_step = step[0]
            steps[last_step] = step[1]
        elif tail is not None and tail[0] > last_tail:
            last_tail = tail[0]
            tails[last_tail] = tail[1]
        else:
            raise BadText(0, at + 1)
    return words[0][1:], steps, tails
