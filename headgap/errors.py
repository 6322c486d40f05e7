"""The errors of the package, each directly below HeadError, with its fields as attributes."""


class HeadError(ValueError):
    """The base of all errors of the package."""


class BadName(HeadError):
    """A value is no name."""

    def __init__(self, value):
        self.value = value


class BadLetter(HeadError):
    """A value is no letter."""

    def __init__(self, value):
        self.value = value


class BadText(HeadError):
    """What was to be read is not written as it must be: a word of a line."""

    def __init__(self, line, word):
        self.line = line
        self.word = word


class BadAnswer(HeadError):
    """A value is no answer."""

    def __init__(self, value):
        self.value = value


class BadConverter(HeadError):
    """A part of a converter is wrong, or an argument is no converter."""

    def __init__(self, part):
        self.part = part


class BadGrowth(HeadError):
    """A part of a growth is wrong, or an argument is no growth."""

    def __init__(self, part):
        self.part = part


class BadNumber(HeadError):
    """A value is no integer, or none that can be taken there."""

    def __init__(self, value):
        self.value = value


class BadPaper(HeadError):
    """An argument is no such paper."""

    def __init__(self, part):
        self.part = part


class BadWord(HeadError):
    """A value is no text, or none of the words that can be taken there."""

    def __init__(self, value):
        self.value = value


class BadLog(HeadError):
    """A value is no log; at is the index of the first wrong item, or None."""

    def __init__(self, at):
        self.at = at


class BadArray(HeadError):
    """An argument is no array."""

    def __init__(self, part):
        self.part = part


class BadDeed(HeadError):
    """An array does not allow this deed now."""

    def __init__(self, part):
        self.part = part


class NoState(HeadError):
    """A value is no state of the converter."""

    def __init__(self, value):
        self.value = value


class NoStep(HeadError):
    """The letter at an index has no step from the state that is come to."""

    def __init__(self, at, state):
        self.at = at
        self.state = state


class NoTail(HeadError):
    """The state at the end has no tail."""

    def __init__(self, state):
        self.state = state


class NoCell(HeadError):
    """A value is no cell of the array."""

    def __init__(self, value):
        self.value = value


class NoText(HeadError):
    """No text, or none of so many letters, is taken."""

    def __init__(self, value):
        self.value = value


class RunOver(HeadError):
    """A letter that is not read yet lies in the cell that is to be written."""

    def __init__(self, cell):
        self.cell = cell


class NoRoom(HeadError):
    """The cell that is needed lies behind the last one."""

    def __init__(self, cell):
        self.cell = cell


class Nothing(HeadError):
    """There is nothing to be left out, or to be taken back."""


class Taken(HeadError):
    """A name or a letter is in use already."""

    def __init__(self, value):
        self.value = value


class TooMany(HeadError):
    """There would be more of something than the most that is allowed."""

    def __init__(self, what, most):
        self.what = what
        self.most = most


class BadCommand(HeadError):
    """A line is no command; word is the index of the first wrong word."""

    def __init__(self, word):
        self.word = word
