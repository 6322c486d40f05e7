"""Runs, taken texts and rings by their definitions alone, to hold the program against; and many small converters."""

import random
from itertools import product

from headgap.converters import Converter


def words(letters, n):
    """All texts of n of these letters, in Python's order."""
    return ["".join(word) for word in product(sorted(letters), repeat=n)]


def walk(converter, text, state=None):
    """The states that a text passes; None if a letter has no step."""
    states = [converter.start if state is None else state]
    for letter in text:
        if (states[-1], letter) not in converter.steps:
            return None
        states.append(converter.steps[states[-1], letter][1])
    return states


def taken(converter, n):
    """All taken texts of n letters, in Python's order."""
    found = []
    for word in words(converter.letters, n):
        states = walk(converter, word)
        if states is not None and states[-1] in converter.tails:
            found.append(word)
    return found


def useful_states(converter):
    """All states of the runs of taken texts that lead to each state and on to a tail without a detour."""
    most = 2 * (len(converter.states) - 1)
    passed = {state for n in range(most + 1) for word in taken(converter, n) for state in walk(converter, word)}
    return tuple(sorted(passed))


def first_text(converter):
    """The first one of the shortest taken texts, None without one."""
    for n in range(len(converter.states)):
        found = taken(converter, n)
        if found:
            return found[0]
    return None


def round_of(converter, useful, state, text):
    """The states that a ring passes, the last one being the first; None if it is no ring."""
    states = walk(converter, text, state) if text else None
    if states is None or states[-1] != state or not set(states) <= set(useful):
        return None
    return states


def rings_of(converter, most, useful=None):
    """All rings of at most so many letters, as pairs, by state, then text; the useful states can be told."""
    useful = useful or useful_states(converter)
    pairs = [(state, word) for state in useful for n in range(1, most + 1) for word in words(converter.letters, n)
             if round_of(converter, useful, state, word)]
    return sorted(pairs)


def simple_rings(converter, useful=None):
    """All simple rings, each told from its least state; the useful states can be told."""
    found = []
    for state, word in rings_of(converter, len(converter.states), useful):
        states = walk(converter, word, state)
        if len(set(states)) == len(word) and min(states) == state:
            found.append((state, word))
    return found


def written(converter, state, text):
    """How many letters the steps of a text write from a state on."""
    states = walk(converter, text, state)
    return sum(len(converter.steps[at, letter][0]) for at, letter in zip(states, text))


def some_converters(many, states=4, letters=3, seed=1):
    """Small converters of every shape: few and many steps and tails, answers of 0 to 3 letters."""
    chance = random.Random(seed)
    found = []
    for _ in range(many):
        names = "stuvwx"[:chance.randint(1, states)]
        signs = "acn"[:chance.randint(1, letters)]
        share = chance.choice((0.3, 0.6, 0.9))
        steps = {(name, sign): ("xyz"[:chance.randint(0, 3)], chance.choice(names))
                 for name in names for sign in signs if chance.random() < share}
        tails = {name: "pq"[:chance.randint(0, 2)] for name in names if chance.random() < chance.choice((0.2, 0.5))}
        found.append(Converter("s", steps, tails))
    return found
