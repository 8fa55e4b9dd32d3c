"""Works as texts: a row for the block and the depth, and one for each thing of the drawing."""

from panelworks.edittext import edit_text, looked_at, read_part
from panelworks.errors import BadRow
from panelworks.forms import parts_by, rows_of, words_in
from panelworks.work import Work

# The kinds of rows behind the first one, in their order.
ROWS = ("place", "say", "draw", "take")


def work_text(work):
    """The rows of a work."""
    numbers = work.block() + (work.depth(),)
    edits = [("place",) + point for point in work.points()]
    edits.extend([("say", saying) for saying in work.sayings()])
    edits.extend([("draw",) + feature for feature in work.features()])
    edits.extend([("take",) + tool for tool in work.tools()])
    rows = [" ".join(["work"] + [str(number) for number in numbers])]
    return "\n".join(rows + [edit_text(edit) for edit in edits])


def read_work(text):
    """The work that a text tells; refuse its first row that can't stand, then what a work refuses."""
    rows = rows_of(text)
    numbers = _read_first(words_in(rows[0], 1))
    edits = []
    least = 0
    for at, row in enumerate(rows[1:]):
        words = words_in(row, at + 2)
        if words[0] not in ROWS[least:]:
            raise BadRow(at + 2, 1)
        least = ROWS.index(words[0])
        edit, wrong = looked_at(words)
        if wrong is not None:
            raise BadRow(at + 2, wrong)
        edits.append(edit)
    work = Work(numbers[:3], depth=numbers[3])
    for edit in edits:
        work.do(edit)
    return work


def _read_first(words):
    """The numbers of the block, and the depth, by the words of the first row."""
    if words[0] != "work":
        raise BadRow(1, 1)
    numbers, wrong = parts_by(("whole",) * 4, words[1:], read_part)
    if wrong is not None:
        raise BadRow(1, 1 + wrong)
    return numbers
