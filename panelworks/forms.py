"""Forms: a word and things of certain kinds behind it, as tuples and as rows of words."""

from panelworks.errors import BadRow
from panelworks.words import words_of


def word_of(thing):
    """The word with which a tuple begins, None of anything else."""
    if isinstance(thing, tuple) and len(thing) > 0 and isinstance(thing[0], str):
        return thing[0]
    return None


def are_of(kinds, parts, fits):
    """Whether parts are as many as their kinds, and each fits its own."""
    return len(parts) == len(kinds) and all([fits(kind, part) for kind, part in zip(kinds, parts)])


def parts_by(kinds, words, read):
    """What words tell as things of these kinds, and the number, from 1, of the first one that can't stand.

    That is None where all can, and one behind the last where words lack.
    """
    parts = []
    for kind, word in zip(kinds, words):
        part = read(kind, word)
        if part is None:
            break
        parts.append(part)
    if len(parts) == len(kinds) == len(words):
        return tuple(parts), None
    return tuple(parts), len(parts) + 1


def rows_of(text):
    """The rows of a text; refuse what is none."""
    if not isinstance(text, str):
        raise BadRow(0, 0)
    return text.split("\n")


def words_in(row, number):
    """The words of the row of that number; refuse one in which not just one blank stands between."""
    words = words_of(row)
    if words is None:
        raise BadRow(number, 0)
    return words
