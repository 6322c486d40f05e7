"""Converters, growths and logs are read from their texts."""

from headgap.converters import Converter
from headgap.errors import BadText
from headgap.forms import MOST_GAINS, settled
from headgap.growths import Growth
from headgap.kinds import is_answer, is_letter, is_log_number, is_name, is_number


def rows_of(text, thing):
    """The lines of a text, as lists of words, the first of which names the thing; raises BadText."""
    if not isinstance(text, str):
        raise BadText(0, 0)
    rows = [line.split(" ") for line in text.split("\n")]
    if rows[0][0] != thing:
        raise BadText(0, 0)
    return rows


def check_line(line, goods, many):
    """Raises BadText for the first word of a line that is not good, or if there are fewer than so many."""
    for at, good in enumerate(goods):
        if not good:
            raise BadText(line, at)
    if len(goods) < many:
        raise BadText(line, len(goods))


def is_answer_word(word):
    """Whether a word tells an answer or a tail."""
    return word == "-" or (word != "" and is_answer(word))


def read_answer(word):
    """The answer that a word tells."""
    return "" if word == "-" else word


def check_step(line, words, last):
    """Raises BadText unless a line tells a step behind the last one."""
    goods = [is_name(words[0])]
    if len(words) > 1:
        goods.append(is_letter(words[1]) and (words[0], words[1]) > last)
    if len(words) > 2:
        goods.append(is_answer_word(words[2]))
    if len(words) > 3:
        goods.append(is_name(words[3]))
    check_line(line, goods + [False for word in words[4:]], 4)


def check_tail(line, words, last):
    """Raises BadText unless a line tells a tail of a later state than the last one."""
    goods = [is_name(words[0]) and words[0] > last]
    if len(words) > 1:
        goods.append(words[1] == "end")
    if len(words) > 2:
        goods.append(is_answer_word(words[2]))
    check_line(line, goods + [False for word in words[3:]], 3)


def read_converter(text):
    """The converter with this text."""
    rows = rows_of(text, "converter")
    check_line(0, [at == 0 or (at == 1 and is_name(word)) for at, word in enumerate(rows[0])], 2)
    steps = {}
    tails = {}
    last_step, last_tail = ("", ""), ""
    for line, words in enumerate(rows):
        # Behind a tail no step can stand, so there only tails are looked for.
        if line > 0 and (last_tail != "" or (len(words) > 1 and words[1] == "end")):
            check_tail(line, words, last_tail)
            last_tail = words[0]
            tails[last_tail] = read_answer(words[2])
        elif line > 0:
            check_step(line, words, last_step)
            last_step = (words[0], words[1])
            steps[last_step] = (read_answer(words[2]), words[3])
    return Converter(rows[0][1], steps, tails)


def is_told(word):
    """Whether a word tells a value of a growth."""
    return word == "none" or is_number(word)


def read_growth(text):
    """The growth with this text."""
    rows = rows_of(text, "growth")
    check_line(0, [at == 0 for at, word in enumerate(rows[0])], 1)
    # A line that lacks is looked at as one without words.
    lines = [*rows, [], []]
    check_line(1, [word == "told" if at == 0 else is_told(word) for at, word in enumerate(lines[1])], 2)
    check_line(2, [word == "gains" if at == 0 else is_number(word) for at, word in enumerate(lines[2])], 2)
    told = [None if word == "none" else int(word) for word in rows[1][1:]]
    gains = [int(word) for word in rows[2][1:]]
    most = min(len(told), MOST_GAINS)
    if len(gains) > most:
        raise BadText(2, most + 1)
    if len(rows) > 3:
        raise BadText(3, 0)
    least_told, least_gains = settled(told, gains)
    if least_told != told or least_gains != gains:
        raise BadText(0, 0)
    return Growth(told, gains)


def is_log_word(word):
    """Whether a word tells a number of a log."""
    return is_number(word) and is_log_number(int(word))


def read_log(text):
    """The log with this text, as a tuple."""
    rows = rows_of(text, "log")
    check_line(0, [at == 0 for at, word in enumerate(rows[0])], 1)
    for line, words in enumerate(rows):
        if line > 0:
            check_line(line, [at < 2 and is_log_word(word) for at, word in enumerate(words)], 2)
    return tuple([(int(words[0]), int(words[1])) for words in rows[1:]])


def read(text):
    """The thing with this text: a converter, a growth or a log."""
    if not isinstance(text, str):
        raise BadText(0, 0)
    word = text.split("\n")[0].split(" ")[0]
    if word == "growth":
        return read_growth(text)
    return read_log(text) if word == "log" else read_converter(text)
