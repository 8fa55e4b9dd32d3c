"""Ways in words: a row for each step."""

from panelworks.errors import BadRow, BadWay
from panelworks.forms import parts_by, rows_of, words_in
from panelworks.steps import STEP_FORMS, fits_step, is_step, need_way
from panelworks.words import signed_of


def step_text(step):
    """The words of a step."""
    if not is_step(step):
        raise BadWay(None)
    return " ".join([str(part) for part in step])


def way_text(way):
    """The rows of a way."""
    need_way(way)
    return "\n".join([step_text(step) for step in way])


def read_way(text):
    """The way that a text tells; refuse the first row that can't stand."""
    rows = rows_of(text)
    if text == "":
        return ()
    return tuple([_read_step(row, number + 1) for number, row in enumerate(rows)])


def _read_step(row, number):
    """The step that the row of that number tells."""
    words = words_in(row, number)
    word = words[0]
    if word not in STEP_FORMS:
        raise BadRow(number, 1)
    parts, wrong = parts_by(STEP_FORMS[word], words[1:], _read_part)
    if wrong is not None:
        raise BadRow(number, 1 + wrong)
    return (word,) + parts


def _read_part(kind, word):
    """What a word tells as a part of a step, None where it can't stand there."""
    part = signed_of(word)
    if not fits_step(kind, part):
        return None
    return part
