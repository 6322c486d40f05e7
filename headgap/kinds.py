"""What a value can be: an integer, a letter, a name, an answer, a text, a written number."""

LETTERS = "abcdefghijklmnopqrstuvwxyz"
FIGURES = "0123456789"
MOST_FIGURES = 60
LONGEST_NAME = 8
LONGEST_ANSWER = 4
LONGEST_TEXT = 400
MOST_IN_LOG = 10 ** 6


def is_integer(value):
    """Whether any value is an int that is not a bool."""
    return isinstance(value, int) and not isinstance(value, bool)


def is_count(value):
    """Whether any value is an integer from 0 on."""
    return is_integer(value) and value >= 0


def is_pair(value):
    """Whether any value is a tuple of two."""
    return isinstance(value, tuple) and len(value) == 2


def is_letters(value, least, most):
    """Whether any value is a string of letters alone, from least to most of them."""
    if not isinstance(value, str) or len(value) < least or len(value) > most:
        return False
    return value == "" or (value.isascii() and value.isalpha() and value.islower())


def is_letter(value):
    """Whether any value is one letter."""
    return is_letters(value, 1, 1)


def is_name(value):
    """Whether any value is a name, as states have them."""
    return is_letters(value, 1, LONGEST_NAME)


def is_answer(value):
    """Whether any value is an answer of a step, or a tail."""
    return is_letters(value, 0, LONGEST_ANSWER)


def is_text(value):
    """Whether any value is a text that can be passed."""
    return is_letters(value, 0, LONGEST_TEXT)


def is_number(word):
    """Whether a word is an integer as str writes it, with at most 60 figures."""
    figures = word[1:] if word.startswith("-") else word
    if figures == "" or len(figures) > MOST_FIGURES:
        return False
    if not all([sign in FIGURES for sign in figures]):
        return False
    return word == "0" or not figures.startswith("0")


def is_log_number(value):
    """Whether any value is an integer as the texts of logs tell them."""
    return is_count(value) and value <= MOST_IN_LOG
