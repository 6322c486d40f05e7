"""Converters: states that read letters, write answers, and go on to states."""

from headgap.errors import (
    BadAnswer, BadConverter, BadLetter, BadName, BadNumber, BadWord, NoState, NoStep, NoTail, Nothing, Taken, TooMany)
from headgap.kinds import is_answer, is_count, is_letter, is_name, is_pair, is_text
from headgap.pairs import paired, repeated_parts, shared_letter
from headgap.rows import are_steps, are_tails, followed, is_row, part_words, read_parts, state_names, step_letters


class Converter:
    """A converter; it never changes."""

    MOST = 6
    LONGEST = 4
    MOST_LETTERS = 4

    def __init__(self, start, steps, tails):
        if not is_name(start):
            raise BadName(start)
        if not are_steps(steps):
            raise BadConverter("steps")
        if not are_tails(tails):
            raise BadConverter("tails")
        states = state_names(start, steps, tails)
        letters = step_letters(steps)
        if len(states) > self.MOST:
            raise TooMany("states", self.MOST)
        if len(letters) > self.MOST_LETTERS:
            raise TooMany("letters", self.MOST_LETTERS)
        self.start = start
        self.states = states
        self.letters = letters
        self.steps = {key: steps[key] for key in steps}
        self.tails = {state: tails[state] for state in tails}

    @staticmethod
    def of(start, **rows):
        """The converter of these rows, by the names of states."""
        if not is_name(start):
            raise BadName(start)
        wrong = sorted([str(name) for name in rows if not is_name(name) or not is_row(rows[name])])
        if len(wrong) > 0:
            raise BadConverter(wrong[0])
        steps = {(name, key): rows[name][key] for name in rows for key in rows[name] if key != ""}
        tails = {name: rows[name][""] for name in rows if "" in rows[name]}
        return Converter(start, steps, tails)

    @classmethod
    def read(cls, text):
        """The converter with this str."""
        start, steps, tails = read_parts(text)
        return cls(start, steps, tails)

    def takes(self, text):
        """Whether any value is a text that is taken."""
        if not is_text(text):
            return False
        _, state, many = followed(self, self.start, text)
        return many == len(text) and state in self.tails

    def tail(self, state):
        """The tail of a state, None without one."""
        if state not in self.states:
            raise NoState(state)
        return self.tails[state] if state in self.tails else None

    def with_step(self, state, letter, answer, to):
        """The converter with this step, in the place of one that is there."""
        if not is_name(state):
            raise BadName(state)
        if not is_letter(letter):
            raise BadLetter(letter)
        if not is_answer(answer):
            raise BadAnswer(answer)
        if not is_name(to):
            raise BadName(to)
        steps = {key: self.steps[key] for key in self.steps}
        steps[state, letter] = (answer, to)
        return Converter(self.start, steps, self.tails)

    def with_tail(self, state, answer):
        """The converter with this tail, in the place of one that is there."""
        if not is_name(state):
            raise BadName(state)
        if not is_answer(answer):
            raise BadAnswer(answer)
        tails = {name: self.tails[name] for name in self.tails}
        tails[state] = answer
        return Converter(self.start, self.steps, tails)

    def without_step(self, state, letter):
        """The converter without this step."""
        if state not in self.states:
            raise NoState(state)
        if not is_letter(letter):
            raise BadLetter(letter)
        if (state, letter) not in self.steps:
            raise Nothing()
        steps = {key: self.steps[key] for key in self.steps if key != (state, letter)}
        return Converter(self.start, steps, self.tails)

    def without_tail(self, state):
        """The converter without this tail."""
        if state not in self.states:
            raise NoState(state)
        if state not in self.tails:
            raise Nothing()
        return Converter(self.start, self.steps, {name: self.tails[name] for name in self.tails if name != state})

    def begun(self, state):
        """The converter with another beginning."""
        return Converter(state, self.steps, self.tails)

    def renamed(self, old, new):
        """The converter with another name of a state."""
        if old not in self.states:
            raise NoState(old)
        if not is_name(new):
            raise BadName(new)
        if new != old and new in self.states:
            raise Taken(new)
        names = {state: new if state == old else state for state in self.states}
        steps = {}
        for state, letter in self.steps:
            answer, to = self.steps[state, letter]
            steps[names[state], letter] = (answer, names[to])
        return Converter(names[self.start], steps, {names[state]: self.tails[state] for state in self.tails})

    def narrowed(self, *letters):
        """The converter with the steps of these letters alone."""
        for letter in letters:
            if not is_letter(letter):
                raise BadLetter(letter)
        steps = {(state, letter): self.steps[state, letter] for state, letter in self.steps if letter in letters}
        return Converter(self.start, steps, self.tails)

    def __call__(self, text):
        if not is_text(text):
            raise BadWord(text)
        written, state, many = followed(self, self.start, text)
        if many < len(text):
            raise NoStep(many, state)
        if state not in self.tails:
            raise NoTail(state)
        return written + self.tails[state]

    def __getitem__(self, at):
        if not is_pair(at):
            raise BadConverter("key")
        state, letter = at
        if state not in self.states:
            raise NoState(state)
        if not is_letter(letter):
            raise BadLetter(letter)
        return self.steps[at] if at in self.steps else None

    def __contains__(self, x):
        return x in self.letters

    def __len__(self):
        return len(self.states)

    def __iter__(self):
        return iter(self.states)

    def __eq__(self, other):
        return (isinstance(other, Converter) and self.start == other.start and self.steps == other.steps
                and self.tails == other.tails)

    def __str__(self):
        return " ".join(part_words(self))

    def __rshift__(self, other):
        if not isinstance(other, Converter):
            raise BadConverter("other")
        start, steps, tails = paired(">>", self, other)
        return Converter(start, steps, tails)

    def __or__(self, other):
        if not isinstance(other, Converter):
            raise BadConverter("other")
        letter = shared_letter(self, other)
        if letter is not None:
            raise Taken(letter)
        start, steps, tails = paired("|", self, other)
        return Converter(start, steps, tails)

    def __and__(self, other):
        if not isinstance(other, Converter):
            raise BadConverter("other")
        start, steps, tails = paired("&", self, other)
        return Converter(start, steps, tails)

    def __mul__(self, other):
        if not is_count(other) or other > self.LONGEST:
            raise BadNumber(other)
        steps, tails = repeated_parts(self, other)
        return Converter(self.start, steps, tails)

    def __rmul__(self, other):
        return self * other
