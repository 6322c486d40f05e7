"""Converters, growths and logs as texts of lines."""

from headgap.errors import BadGrowth, BadLog
from headgap.growths import Growth
from headgap.kinds import is_log_number, is_pair
from headgap.ways import check_converter


def answer_word(answer):
    """The word of an answer or a tail."""
    return "-" if answer == "" else answer


def converter_text(converter):
    """The text of a converter."""
    check_converter(converter)
    lines = [f"converter {converter.start}"]
    for state in converter.states:
        for letter in converter.letters:
            if (state, letter) in converter.steps:
                answer, to = converter.steps[state, letter]
                lines.append(f"{state} {letter} {answer_word(answer)} {to}")
    for state in converter.states:
        if state in converter.tails:
            lines.append(f"{state} end {answer_word(converter.tails[state])}")
    return "\n".join(lines)


def growth_text(growth):
    """The text of a growth."""
    if not isinstance(growth, Growth):
        raise BadGrowth("growth")
    told = ["none" if value is None else str(value) for value in growth.told]
    gains = [str(gain) for gain in growth.gains]
    return "\n".join(["growth", " ".join(["told", *told]), " ".join(["gains", *gains])])


def log_text(log):
    """The text of a log."""
    if not isinstance(log, (list, tuple)):
        raise BadLog(None)
    for at, item in enumerate(log):
        if not is_pair(item) or not is_log_number(item[0]) or not is_log_number(item[1]):
            raise BadLog(at)
    return "\n".join(["log", *[f"{read} {written}" for read, written in log]])
