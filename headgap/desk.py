"""Desks: lines of words make converters under names, and ask what is to be known of them."""

from headgap.arrays import array_growth, extra
from headgap.compare import difference
from headgap.converters import Converter
from headgap.errors import BadCommand, BadText, HeadError
from headgap.gaps import gap, gap_for
from headgap.joins import beside, common, joined, repeated
from headgap.kinds import is_letters, is_name, is_number, is_text
from headgap.rows import read_parts
from headgap.sizes import least, longest
from headgap.smallest import smallest

MOST_NUMBER = 10 ** 30
MOST_TIMES = 4
# What stands behind the first word: an old name has a converter, a name need not.
CHANGES = {
    "let": ("name", "words"), "join": ("name", "old", "old"), "beside": ("name", "old", "old"),
    "common": ("name", "old", "old"), "times": ("name", "old", "times"), "narrow": ("old", "letters"),
    "rename": ("old", "name", "name"), "begin": ("old", "name"), "drop": ("old",),
}
QUESTIONS = {
    "show": ("old",), "answer": ("old", "text"), "longest": ("old", "number"), "shortest": ("old", "number"),
    "ahead": ("old", "number"), "room": ("old", "number"), "gap": ("old",), "extra": ("old",), "least": ("old",),
    "more": ("old", "old"),
}


def parts_of(word):
    """What stands behind the first word of a line; None if no line of the table begins with it."""
    if word == "undo":
        return ()
    return CHANGES.get(word, QUESTIONS.get(word))


def is_number_to(word, most):
    """Whether a word is a number from 0 to the most."""
    return is_number(word) and int(word) >= 0 and int(word) <= most


def can_stand(part, word):
    """Whether a word can stand for a part of a line."""
    if part == "letters":
        return is_letters(word, 1, len(word))
    if part == "text":
        return word == "-" or (word != "" and is_text(word))
    if part == "number":
        return is_number_to(word, MOST_NUMBER)
    return is_number_to(word, MOST_TIMES) if part == "times" else is_name(word)


def check_converter_words(text, at):
    """Raises BadCommand unless a converter can be read of a text, the words of which begin at so many words."""
    try:
        read_parts(text)
    except BadText as error:
        raise BadCommand(at + error.word) from None


def words_of(line):
    """The words of a line of the table, the words of a converter being one; raises BadCommand."""
    if not isinstance(line, str):
        raise BadCommand(0)
    words = line.split(" ", 2) if line.startswith("let ") else line.split(" ")
    parts = parts_of(words[0])
    if parts is None:
        raise BadCommand(0)
    for at, word in enumerate(words[1:]):
        if at < len(parts) and parts[at] == "words":
            check_converter_words(word, at + 1)
        elif at >= len(parts) or not can_stand(parts[at], word):
            raise BadCommand(at + 1)
    if len(words) <= len(parts):
        raise BadCommand(len(words))
    return words


class Shelved:
    """A converter under a name, and the growths that were asked of it: it never changes, so they stay right."""

    def __init__(self, converter, growths):
        self.converter = converter
        self.growths = growths


def changed(words, shelf):
    """The converter that a line makes or changes, None for one that is dropped; raises what the functions raise."""
    word, name = words[0], words[1]
    if word == "let":
        return Converter.read(words[2])
    if word == "join":
        return joined(shelf[words[2]].converter, shelf[words[3]].converter)
    if word == "beside":
        return beside(shelf[words[2]].converter, shelf[words[3]].converter)
    if word == "common":
        return common(shelf[words[2]].converter, shelf[words[3]].converter)
    if word == "times":
        return repeated(shelf[words[2]].converter, int(words[3]))
    if word == "narrow":
        letters = words[2]
        return shelf[name].converter.narrowed(*letters)
    if word == "rename":
        return shelf[name].converter.renamed(words[2], words[3])
    return shelf[name].converter.begun(words[2]) if word == "begin" else None


def newly_shelved(words, shelf):
    """What a line puts under its name, None for one that is dropped; raises what the functions raise."""
    converter = changed(words, shelf)
    if converter is None:
        return None
    # The names of states tell nothing of lengths and gaps.
    growths = shelf[words[1]].growths if words[0] == "rename" else {}
    return Shelved(converter, growths)


def growth_made(word, held):
    """The growth that a word asks for, of a converter with the growths that are there already."""
    if word == "longest":
        return longest(held.converter)
    if word == "shortest":
        return least(held.converter)
    if word == "ahead":
        return gap_for(held.converter)
    return array_growth(growth_of("longest", held), growth_of("ahead", held))


def growth_of(word, held):
    """The growth that a word asks for; it is made when it is asked for first."""
    if word not in held.growths:
        held.growths[word] = growth_made(word, held)
    return held.growths[word]


def number_word(value):
    """The word of a number, or of none."""
    return "none" if value is None else str(value)


def state_count(converter):
    """How many states the smallest machine for the lengths has."""
    told = smallest(converter)
    # Each state is useful: it has a step or a tail.
    return len({state for state, letter in told.steps} | {state for state in told.tails})


def more_words(one, other):
    """What is told of a difference."""
    told = difference(one, other)
    if told is None:
        return "none"
    return f"most {told.number}" if told else "never"


def answered(words, shelf):
    """The answer to a question; raises what the functions raise."""
    word, held = words[0], shelf[words[1]]
    converter = held.converter
    if word == "show":
        return str(converter)
    if word == "answer":
        written = converter("" if words[2] == "-" else words[2])
        return "-" if written == "" else written
    if word == "gap":
        told = gap(converter)
        return f"enough {told.number}" if told else "never"
    if word == "extra":
        told = extra(converter)
        return f"fits {told.number}" if told else "beyond"
    if word == "least":
        return str(state_count(converter))
    if word == "more":
        return more_words(converter, shelf[words[2]].converter)
    return number_word(growth_of(word, held)[int(words[2])])


class Desk:
    """Converters under names; lines make, change and ask them."""

    def __init__(self):
        self.shelf = {}
        self.past = []

    @property
    def names(self):
        """The ascending tuple of the names."""
        return tuple(sorted([str(name) for name in self.shelf]))

    def set_down(self, name, held):
        """Puts a converter with its growths under a name, or none."""
        if held is not None:
            self.shelf[name] = held
        elif name in self.shelf:
            del self.shelf[name]

    def undone(self):
        """Takes back the last line that was carried out and is not taken back; returns the answer."""
        if len(self.past) == 0:
            return "nothing"
        name, before = self.past.pop()
        self.set_down(name, before)
        return "ok"

    def carried_out(self, words):
        """Carries out the words of a line, and returns the answer; raises what the functions raise."""
        if words[0] == "undo":
            return self.undone()
        if words[0] in QUESTIONS:
            return answered(words, self.shelf)
        held = newly_shelved(words, self.shelf)
        self.past.append((words[1], self.shelf.get(words[1])))
        self.set_down(words[1], held)
        return "ok"

    def say(self, line):
        """Carries out a line, and returns its answer."""
        words = words_of(line)
        for part, word in zip(parts_of(words[0]), words[1:]):
            if part == "old" and word not in self.shelf:
                return f"no {word}"
        try:
            return self.carried_out(words)
        except HeadError as error:
            return f"refused {error.__class__.__name__}"

    def run(self, *lines):
        """The list of the answers to lines; if one is no line of the table, all is as it was."""
        shelf = {name: self.shelf[name] for name in self.shelf}
        past = list(self.past)
        answers = []
        try:
            for line in lines:
                answers.append(self.say(line))
        except BadCommand:
            self.shelf = shelf
            self.past = past
            raise
        return answers

    def __call__(self, line):
        return self.say(line)

    def __len__(self):
        return len(self.past)
