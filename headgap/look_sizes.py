"""Whether growths are those of the useful states: they are held against the equations, for all lengths at once."""

from headgap.growths import Growth
from headgap.sizes import Table, check_word
from headgap.tables import ROUND, Equations, goes_on
from headgap.ways import check_converter


def are_growths(states, growths):
    """Whether any value is a dict from just these states to growths that can be theirs."""
    if not isinstance(growths, dict) or len(growths) != len(states):
        return False
    for state in states:
        if state not in growths or not isinstance(growths[state], Growth):
            return False
        # The growths of a converter all go on by rounds, and the period of a normal form is a part of each other one.
        if ROUND % growths[state].period != 0:
            return False
    return True


def keep_equations(equations, growths):
    """Whether growths, those of the greatest values, keep the equations for all n."""
    begin = max([len(growth.told) for growth in growths], default=1)
    rows = [[growth[0] for growth in growths]]
    if rows[0] != equations.first:
        return False
    for n in range(begin + 2 * ROUND):
        rows.append([growth[n + 1] for growth in growths])
        if rows[n + 1] != equations.row_behind(rows[n], n):
            return False
    return goes_on(equations, rows, begin, ROUND)


def shows_table(converter, word, value):
    """Whether any value is the Table of a word."""
    check_converter(converter)
    check_word(word)
    equations = Equations(converter, word)
    if not isinstance(value, Table) or not are_growths(equations.states, value.growths):
        return False
    growths = [value.growths[state] for state in equations.states]
    # What is least is the greatest of what is counted below 0.
    return keep_equations(equations, [-growth for growth in growths] if word == "least" else growths)
