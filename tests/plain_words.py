"""What can be read of texts and lines, by patterns of their words alone, to hold the program against."""

import re

NAME, LETTER, ANSWER, TEXT = "[a-z]{1,8}", "[a-z]", "-|[a-z]{1,4}", "-|[a-z]{1,400}"
FIGURES = "0|[1-9][0-9]{0,59}"
NUMBER = f"{FIGURES}|-[1-9][0-9]{{0,59}}"
UP_TO_MILLION = "0|[1-9][0-9]{0,5}|1000000"
UP_TO_DESK = "0|[1-9][0-9]{0,29}|1" + "0" * 30
STEP, TAIL = (NAME, LETTER, ANSWER, NAME), (NAME, "end", ANSWER)
NEW, OLD, MORE = f"new {NAME}", f"old {NAME}", NAME
LINES = {
    "join": (NAME, OLD, OLD), "beside": (NAME, OLD, OLD), "common": (NAME, OLD, OLD), "times": (NAME, OLD, "[0-4]"),
    "narrow": (OLD, "[a-z]+"), "rename": (OLD, NAME, NAME), "begin": (OLD, NAME), "drop": (OLD,), "undo": (), "show": (OLD,),
    "answer": (OLD, TEXT), "longest": (OLD, UP_TO_DESK), "shortest": (OLD, UP_TO_DESK), "ahead": (OLD, UP_TO_DESK),
    "room": (OLD, UP_TO_DESK), "gap": (OLD,), "extra": (OLD,), "least": (OLD,), "more": (OLD, OLD),
}


def fits(pattern, word):
    return re.fullmatch(pattern, word) is not None


def stands(words, form):
    """Whether these words can begin a line of a form."""
    return len(words) <= len(form) and all(fits(pattern, word) for word, pattern in zip(words, form))


def wrong_converter(text):
    """The line and the word at which a text of a converter is wrong, None if all is right."""
    lines = [line.split(" ") for line in text.split("\n")]
    if lines[0][0] != "converter":
        return 0, 0
    step, tail = None, None
    for line, words in enumerate(lines):
        for k in range(1, len(words) + 1):
            part = words[:k]
            can_step = tail is None and stands(part, STEP) and (k < 2 or step is None or tuple(part[:2]) > step)
            can_tail = stands(part, TAIL) and (tail is None or part[0] > tail)
            if line == 0:
                can_step, can_tail = stands(part, ("converter", NAME)), False
            if not can_step and not can_tail:
                return line, k - 1
        if len(words) < (2 if line == 0 else 4 if can_step else 3):
            return line, len(words)
        if line > 0 and can_step:
            step = tuple(words[:2])
        elif line > 0:
            tail = words[0]
    return None


def wrong_growth(text, growth):
    """Likewise of a growth; growth makes one of told ones and gains and tells its text."""
    lines = [line.split(" ") for line in text.split("\n")]
    if lines[0][0] != "growth":
        return 0, 0
    if len(lines[0]) > 1:
        return 0, 1
    for line, head, pattern in ((1, "told", f"none|{NUMBER}"), (2, "gains", NUMBER)):
        if len(lines) == line:
            return line, 0
        for k, word in enumerate(lines[line]):
            if not fits(pattern if k else head, word):
                return line, k
        if len(lines[line]) == 1:
            return line, 1
    most = min(60, len(lines[1]) - 1)
    if len(lines[2]) - 1 > most:
        return 2, most + 1
    if len(lines) > 3:
        return 3, 0
    told = growth([None if word == "none" else int(word) for word in lines[1][1:]], [int(word) for word in lines[2][1:]])
    return None if told == text else (0, 0)


def wrong_log(text):
    """Likewise of a log."""
    lines = [line.split(" ") for line in text.split("\n")]
    if lines[0][0] != "log":
        return 0, 0
    for line, words in enumerate(lines):
        form = ("log",) if line == 0 else (UP_TO_MILLION, UP_TO_MILLION)
        for k in range(1, len(words) + 1):
            if not stands(words[:k], form):
                return line, k - 1
        if len(words) < len(form):
            return line, len(words)
    return None


def wrong_words(words):
    """The first one of the words of a converter that is wrong, None if all are right."""
    step, tail = None, None
    if not fits(f"@{NAME}", words[0]):
        return 0
    for k, word in enumerate(words[1:]):
        found = re.fullmatch(f"({NAME}):({LETTER})>([a-z]{{0,4}})>({NAME})", word)
        ending = re.fullmatch(f"({NAME})[$]([a-z]{{0,4}})", word)
        if found and tail is None and (step is None or found.groups()[:2] > step):
            step = found.groups()[:2]
        elif ending and (tail is None or ending.group(1) > tail):
            tail = ending.group(1)
        else:
            return k + 1
    return None


def wrong_line(line):
    """The first word of a line of a desk that is wrong, None if it is a line of the table."""
    words = line.split(" ")
    if words[0] == "let":
        if len(words) == 1 or not fits(NAME, words[1]):
            return 1
        wrong = 0 if len(words) == 2 else wrong_words(words[2:])
        return None if wrong is None else 2 + wrong
    if words[0] not in LINES:
        return 0
    form = [pattern.removeprefix("old ") for pattern in LINES[words[0]]]
    for k in range(1, len(words)):
        if not stands(words[1:k + 1], form):
            return k
    return len(words) if len(words) <= len(form) else None


def old_names(line):
    """The names of a line that must have a converter."""
    words = line.split(" ")
    return [word for word, pattern in zip(words[1:], LINES.get(words[0], ())) if pattern.startswith("old ")]
