"""How long answers can be: longest, least and burst, the growths of all states, and the texts that are answered so."""

from headgap.errors import BadNumber, BadWord, NoText
from headgap.growths import Growth
from headgap.held import copied, same
from headgap.kinds import LONGEST_TEXT, is_count
from headgap.tables import WORDS, Equations, growth_at_start, growths_of
from headgap.ways import check_converter, useful_steps


class Table:
    """A paper: the growths of the useful states."""

    def __init__(self, growths):
        self.growths = copied(growths)

    def __eq__(self, other):
        return isinstance(other, Table) and same(self.growths, other.growths)


def longest(converter):
    """The growth of the greatest length of the answer to a taken text of n letters."""
    check_converter(converter)
    return growth_at_start(converter, "longest")


def least(converter):
    """The growth of the least length of the answer to a taken text of n letters."""
    check_converter(converter)
    return growth_at_start(converter, "least")


def burst(converter):
    """The growth of the greatest number of letters that n letters in the midst of taken texts write."""
    check_converter(converter)
    growths = growths_of(converter, "burst")
    most = Growth.none()
    for state in growths:
        most = most | growths[state]
    return most


def check_word(word):
    """Raises BadWord for any value that tells no table."""
    if not isinstance(word, str) or word not in WORDS:
        raise BadWord(word)


def table(converter, word):
    """The growths of all useful states as a Table."""
    check_converter(converter)
    check_word(word)
    return Table(growths_of(converter, word))


def letter_for(converter, steps, values, state, worth):
    """The least letter by which a state comes to this worth, from the values of the states behind it."""
    for letter in converter.letters:
        if (state, letter) in steps:
            answer, to = steps[state, letter]
            if values[to] is not None and values[to] + len(answer) == worth:
                return letter
    return None


def text_for(converter, n):
    """The first taken text of n letters whose answer is as long as any."""
    check_converter(converter)
    if not is_count(n) or n > LONGEST_TEXT:
        raise BadNumber(n)
    equations = Equations(converter, "longest")
    rows = [{name: row[at] for at, name in enumerate(equations.states)} for row in equations.rows_to(n)]
    state = converter.start
    if state not in rows[n] or rows[n][state] is None:
        raise NoText(n)
    steps = useful_steps(converter)
    text = ""
    for k in range(n):
        letter = letter_for(converter, steps, rows[n - k - 1], state, rows[n - k][state])
        text = text + letter
        _, state = steps[state, letter]
    return text
