"""Whole numbers, names, the words of rows, and how great all things may be."""

MOST_POINTS = 12
MOST_SAYINGS = 20
MOST_NUMBER = 999
MOST_RATIO = 99
MOST_PLACED = 9999
MOST_UNDER = 99
MOST_RING = 12
MOST_SIDE = 8
MOST_HIGH = 6
MOST_FEATURES = 5
MOST_TOOLS = 4
MOST_TOOL = 4
MOST_LENGTH = 6
DEPTH = 2

LETTERS = "abcdefghijklmnopqrstuvwxyz"
MOST_LETTERS = 8
FIGURES = "0123456789"
MOST_FIGURES = 4


def is_whole(thing):
    """Whether it is a whole number; True and False are none."""
    return isinstance(thing, int) and not isinstance(thing, bool)


def is_among(thing, least, most):
    """Whether it is a whole number from least to most."""
    if not is_whole(thing) or not is_whole(least) or not is_whole(most):
        return False
    return least <= thing <= most


def is_name(thing):
    """Whether it is a text of one to eight small letters."""
    return _is_text_of(thing, LETTERS, MOST_LETTERS)


def number_of(word):
    """The number that a word tells, None of any other thing."""
    if not _is_text_of(word, FIGURES, MOST_FIGURES):
        return None
    if word[0] == "0" and word != "0":
        return None
    return int(word)


def signed_of(word):
    """The number that a word tells, perhaps one below nought, None of any other thing."""
    if not isinstance(word, str) or word[:1] != "-":
        return number_of(word)
    number = number_of(word[1:])
    if number is None or number == 0:
        return None
    return -number


def words_of(row):
    """The words of a row, None where they don't stand between single blanks."""
    if not isinstance(row, str):
        return None
    words = row.split(" ")
    if "" in words:
        return None
    return words


def _is_text_of(thing, signs, most):
    if not isinstance(thing, str) or not 1 <= len(thing) <= most:
        return False
    return all([sign in signs for sign in thing])
