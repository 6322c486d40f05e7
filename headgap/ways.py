"""Ways through a converter: where its steps lead, and which of them lie on the way of a taken text."""

from headgap.converters import Converter
from headgap.errors import BadConverter, BadWord, NoStep
from headgap.kinds import is_text
from headgap.rows import followed


def check_converter(converter):
    """Raises BadConverter for any value of a parameter called converter that is none."""
    if not isinstance(converter, Converter):
        raise BadConverter("converter")


def steps_along(converter, text):
    """The pairs (answer, state) of the steps of a run; raises BadConverter, BadWord, NoStep."""
    check_converter(converter)
    if not is_text(text):
        raise BadWord(text)
    state = converter.start
    found = []
    for at, letter in enumerate(text):
        if (state, letter) not in converter.steps:
            raise NoStep(at, state)
        found.append(converter.steps[state, letter])
        state = found[at][1]
    return found


def states_reached(converter):
    """The states that the run of some text passes."""
    found = [converter.start]
    at = 0
    while at < len(found):
        for letter in converter.letters:
            if (found[at], letter) in converter.steps:
                _, to = converter.steps[found[at], letter]
                if to not in found:
                    found.append(to)
        at += 1
    return found


def states_ahead(converter, goals):
    """The states from which a step leads to one of these."""
    found = {}
    for state, letter in converter.steps:
        _, to = converter.steps[state, letter]
        if to in goals:
            found[state] = True
    return found


def states_ended(converter, n):
    """For each number of letters from 0 to n the states from which some text of so many leads to a tail."""
    rows = [{state: True for state in converter.tails}]
    for k in range(n):
        rows.append(states_ahead(converter, rows[k]))
    return rows


def states_that_end(converter):
    """The states from which some text leads to a tail."""
    found = {state: True for state in converter.tails}
    many = -1
    while len(found) > many:
        many = len(found)
        for (state, _), (_, to) in converter.steps.items():
            if to in found:
                found[state] = True
    return found


def useful_states(converter):
    """The ascending tuple of the states that the run of some taken text passes."""
    ended = states_that_end(converter)
    reached = states_reached(converter)
    return tuple([state for state in converter.states if state in reached and state in ended])


def steps_between(converter, states):
    """The steps between these states, by state, then letter."""
    found = {}
    for state in states:
        for letter in converter.letters:
            if (state, letter) in converter.steps:
                answer, to = converter.steps[state, letter]
                if to in states:
                    found[state, letter] = (answer, to)
    return found


def useful_steps(converter):
    """The steps between useful states, by state, then letter."""
    return steps_between(converter, useful_states(converter))


def written_round(converter, ahead, ring, behind):
    """How many letters a ring writes, if ahead, the ring any number of times, and behind are taken; None if not."""
    _, state, many = followed(converter, converter.start, ahead)
    written, back, more = followed(converter, state, ring)
    _, end, last = followed(converter, state, behind)
    if many < len(ahead) or more < len(ring) or last < len(behind):
        return None
    return len(written) if back == state and end in converter.tails else None
