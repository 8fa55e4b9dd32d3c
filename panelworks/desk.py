"""A desk that does edits, and answers questions, line by line."""

from panelworks.bodies import height_at, volume
from panelworks.bounds import low
from panelworks.drawingtext import read_work, work_text
from panelworks.edittext import read_edit, read_saying
from panelworks.errors import BadBlock, BadFeature, BadRow, BadSketch, Clash, NoFeature, NoPoint, NoSaying
from panelworks.errors import Nothing, NoTool, OutOfPlace, TooGreat, Twice
from panelworks.fields import height_on
from panelworks.following import fixed_at, free_ways, word_beside
from panelworks.fractions import fraction_text, read_fraction
from panelworks.judged import words_at
from panelworks.reach import left
from panelworks.sayings import is_axis
from panelworks.waytext import way_text
from panelworks.words import is_name, words_of
from panelworks.work import Work

DONE = "done"
NONE = "none"
NO_LINE = "no line"
# What stands between two rows of a text that is told, or handed in, as a line.
BETWEEN = " ; "


class Desk:
    """A work that is edited and asked by lines."""

    def __init__(self):
        self._work = Work((4, 4, 2), depth=2)

    def say(self, line):
        """The answer to a line."""
        try:
            return self._answer(line)
        except BadRow as row:
            return f"refused row {row.row} {row.word}"
        except Clash as clash:
            return f"refused clash {clash.number}"
        except BadFeature as feature:
            return f"refused feature {feature.number}"
        except BadSketch:
            return "refused sketch"
        except BadBlock:
            return "refused block"
        except OutOfPlace:
            return "refused place"
        except Twice:
            return "refused twice"
        except TooGreat:
            return "refused great"
        except NoPoint as point:
            return f"refused point {point.name}"
        except NoSaying as saying:
            return f"refused saying {saying.number}"
        except NoFeature as edge:
            return f"refused edge {edge.number}"
        except NoTool:
            return "refused tool"
        except Nothing:
            return "refused nothing"

    def work(self):
        """A copy of the work."""
        return self._work.copied()

    def _answer(self, line):
        words = words_of(line)
        if words is None or "\n" in line:
            return NO_LINE
        if words[0] == "work" and len(words) > 1:
            self._work = read_work(line.replace(BETWEEN, "\n"))
            return DONE
        if line == "undo":
            self._work.undo()
            return DONE
        if line == "redo":
            self._work.redo()
            return DONE
        edit = _edit_in(line)
        if edit is not None:
            return " ".join([DONE] + list(self._work.do(edit)))
        return _told(self._work, words)


def _edit_in(line):
    """The edit that a line tells, None of another line."""
    edits = [read_edit(part.split(" ")) for part in line.split(BETWEEN)]
    if None in edits:
        return None
    if len(edits) == 1:
        return edits[0]
    return ("many", tuple(edits))


def _told(work, words):
    """The answer to a question."""
    word = words[0]
    if len(words) == 1 and word in QUESTIONS:
        question = QUESTIONS[word]
        return question(work)
    if word == "beside":
        saying = read_saying(words[1:])
        if saying is not None:
            return word_beside(work.points(), work.sayings(), saying)
    if word == "fixed" and len(words) == 3 and is_name(words[1]) and is_axis(words[2]):
        return _fixed_text(fixed_at(work.points(), work.sayings(), words[1], words[2]))
    if word == "height" and len(words) == 3:
        x, y = [read_fraction(one) for one in words[1:]]
        if x is not None and y is not None:
            return _heights_text(work, x, y)
    return NO_LINE


def _fixed_text(one):
    if one is None:
        return NONE
    return fraction_text(one)


def _heights_text(work, x, y):
    """What stands at a point in the body, and in the thing."""
    body = height_at(work.block(), work.features(), work.places(), x, y)
    return f"{body} {height_on(work.thing(), x, y)}"


def _or_none(text):
    if text == "":
        return NONE
    return text


def _grid_text(rows):
    """What stands in cells, row by row."""
    return " / ".join([" ".join([str(one) for one in row]) for row in rows])


def _text(work):
    return work_text(work).replace("\n", BETWEEN)


def _places(work):
    return _or_none(", ".join([f"{name} {fraction_text(x)} {fraction_text(y)}" for name, x, y in work.places()]))


def _target(work):
    return _grid_text(work.target()[1])


def _least(work):
    return _grid_text(work.least()[1])


def _reach(work):
    return _grid_text(work.reach()[1])


def _thing(work):
    return _grid_text(work.thing()[1])


def _way(work):
    return _or_none(way_text(work.way()).replace("\n", BETWEEN))


def _time(work):
    return str(work.time())


def _low(work):
    return str(low(work.target(), work.tools(), depth=work.depth()))


def _free(work):
    return str(free_ways(work.points(), work.sayings()))


def _many(work):
    return str(len(work))


def _volume(work):
    return fraction_text(volume(work.block(), work.features(), work.places()))


def _left(work):
    rows = [f"{i} {j} {target} {height}" for (i, j), target, height in left(work.target(), work.tools())]
    return _or_none(", ".join(rows))


def _words(work):
    return _grid_text(words_at(work.target(), work.reach(), work.thing()))


QUESTIONS = {
    "text": _text,
    "places": _places,
    "target": _target,
    "least": _least,
    "reach": _reach,
    "thing": _thing,
    "way": _way,
    "time": _time,
    "low": _low,
    "free": _free,
    "many": _many,
    "volume": _volume,
    "left": _left,
    "words": _words,
}
