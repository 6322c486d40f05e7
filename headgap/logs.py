"""Logs: how many letters had been read and written at some moments, and the texts that explain them.

A row holds what can be so behind some letters: for each state a number whose bit k tells that k letters can have been
written.
"""

from headgap.errors import BadLog, BadNumber
from headgap.kinds import LONGEST_ANSWER, is_count, is_pair
from headgap.ways import check_converter, useful_states, useful_steps

MOST_ITEMS = 20
MOST_READ = 60


def check_log(log):
    """Raises BadLog for any value that is no log."""
    if not isinstance(log, (list, tuple)) or len(log) < 1 or len(log) > MOST_ITEMS:
        raise BadLog(None)
    last = -1
    for at, item in enumerate(log):
        if not is_pair(item) or not is_count(item[0]) or not is_count(item[1]):
            raise BadLog(at)
        if item[0] <= last or item[0] > MOST_READ:
            raise BadLog(at)
        last = item[0]


def first_row(converter):
    """The row behind no letter; only useful states stand in rows."""
    return {converter.start: 1} if converter.start in useful_states(converter) else {}


def row_behind(steps, row):
    """The row behind one letter more."""
    found = {}
    for state, letter in steps:
        answer, to = steps[state, letter]
        if state in row:
            found[to] = found.get(to, 0) | (row[state] << len(answer))
    return found


def row_ahead(steps, row, behind):
    """The part of a row that can come to something in the row behind it."""
    found = {}
    for state, letter in steps:
        answer, to = steps[state, letter]
        if state in row and to in behind:
            found[state] = found.get(state, 0) | (row[state] & (behind[to] >> len(answer)))
    return {state: found[state] for state in found if found[state] > 0}


def row_with(row, written):
    """The part of a row with just so many letters written."""
    # No more can be written within a log, and a greater number could be too great to be told by a bit.
    if written > MOST_READ * LONGEST_ANSWER:
        return {}
    return {state: 1 << written for state in row if (row[state] >> written) & 1 == 1}


def rows_of(converter, steps, log):
    """The rows behind no letter and so on up to the last moment; at its moments they hold what the log tells."""
    told = {read: written for read, written in log}
    row = first_row(converter)
    rows = []
    for k in range(log[-1][0] + 1):
        row = row_behind(steps, row) if k > 0 else row
        row = row_with(row, told[k]) if k in told else row
        rows.append(row)
    return rows


def states_after(converter, log):
    """The ascending tuple of the states behind the last moment, over all texts that explain a log."""
    check_converter(converter)
    check_log(log)
    row = rows_of(converter, useful_steps(converter), log)[-1]
    return tuple([state for state in converter.states if state in row])


def first_wrong(converter, log):
    """The least index such that no text explains the pairs up to it; None if some text explains the log."""
    check_converter(converter)
    check_log(log)
    rows = rows_of(converter, useful_steps(converter), log)
    for at, (read, _) in enumerate(log):
        if len(rows[read]) == 0:
            return at
    return None


def first_text(converter, steps, rows):
    """The first text that comes to the last row; rows hold only what can come to it."""
    text, state, written = "", converter.start, 0
    for row in rows[1:]:
        for letter in converter.letters:
            if (state, letter) in steps:
                answer, to = steps[state, letter]
                if to in row and (row[to] >> (written + len(answer))) & 1 == 1:
                    text, state, written = text + letter, to, written + len(answer)
                    break
    return text


def explained(converter, log):
    """The first one of the shortest texts that explain a log; None if there is none."""
    check_converter(converter)
    check_log(log)
    steps = useful_steps(converter)
    rows = rows_of(converter, steps, log)
    if len(rows[-1]) == 0:
        return None
    # Each useful state leads to a tail within a few letters.
    while not any([state in converter.tails for state in rows[-1]]):
        rows.append(row_behind(steps, rows[-1]))
    good = {state: rows[-1][state] for state in rows[-1] if state in converter.tails}
    found = [good]
    for row in rows[-2::-1]:
        good = row_ahead(steps, row, good)
        found.append(good)
    return first_text(converter, steps, found[::-1])


def lengths_of(converter, n):
    """The ascending tuple of the lengths of the answers to all taken texts of n letters."""
    check_converter(converter)
    if not is_count(n) or n > MOST_READ:
        raise BadNumber(n)
    steps = useful_steps(converter)
    row = first_row(converter)
    for _ in range(n):
        row = row_behind(steps, row)
    found = 0
    for state in row:
        if state in converter.tails:
            found = found | (row[state] << len(converter.tails[state]))
    return tuple([k for k in range(found.bit_length()) if (found >> k) & 1 == 1])
