"""What edits make of a drawing, by what they name.

A drawing is a dict: "block", "depth", "points", "sayings", "features" and "tools" as they stand. None is changed.
"""

from panelworks.errors import NoFeature, NoPoint, NoSaying, NoTool, OutOfPlace, TooGreat, Twice
from panelworks.sayings import is_close, names_in, names_of
from panelworks.solving import solved
from panelworks.words import MOST_FEATURES, MOST_POINTS, MOST_SAYINGS, MOST_TOOLS

# Sayings that have a number, which is the last thing in them.
NUMBERED = ("at", "apart")


def edited(drawing, edit):
    """The drawing behind an edit but "many"; refuse one by what it names."""
    action = ACTIONS[edit[0]]
    return action(drawing, edit)


def _with(drawing, part, things):
    behind = dict(drawing)
    behind[part] = things
    return behind


def _with_more(drawing, part, thing, most):
    """The drawing with one thing more behind all others of a part; refuse one too many."""
    if len(drawing[part]) == most:
        raise TooGreat("no more than so many " + part)
    return _with(drawing, part, drawing[part] + (thing,))


def _with_other(drawing, part, number, some):
    """The drawing with some things in the place of the one of that number."""
    things = drawing[part]
    return _with(drawing, part, things[:number] + some + things[number + 1:])


def _placed(drawing, edit):
    names = names_of(drawing["points"])
    if edit[1] in names:
        return _with_other(drawing, "points", names.index(edit[1]), (edit[1:],))
    return _with_more(drawing, "points", edit[1:], MOST_POINTS)


def _settled(drawing, edit):
    places = solved(drawing["points"], drawing["sayings"])
    for _, x, y in places:
        if not is_close(x) or not is_close(y):
            raise TooGreat("a place that no point may have")
    return _with(drawing, "points", places)


def _said(drawing, edit):
    _need_points(drawing, names_in(edit[1]))
    return _with_more(drawing, "sayings", edit[1], MOST_SAYINGS)


def _unsaid(drawing, edit):
    _need_saying(drawing, edit[1])
    return _with_other(drawing, "sayings", edit[1], ())


def _renumbered(drawing, edit):
    _, number, to = edit
    _need_saying(drawing, number)
    saying = drawing["sayings"][number]
    if saying[0] not in NUMBERED:
        raise OutOfPlace("a saying without a number")
    return _with_other(drawing, "sayings", number, (saying[:-1] + (to,),))


def _drawn(drawing, edit):
    _need_points(drawing, edit[1])
    _need_height(drawing, edit[2])
    return _with_more(drawing, "features", edit[1:], MOST_FEATURES)


def _erased(drawing, edit):
    _need_feature(drawing, edit[1])
    return _with_other(drawing, "features", edit[1], ())


def _lifted(drawing, edit):
    _, number, height = edit
    _need_feature(drawing, number)
    _need_height(drawing, height)
    outline, _ = drawing["features"][number]
    return _with_other(drawing, "features", number, ((outline, height),))


def _taken(drawing, edit):
    if edit[1:] in drawing["tools"]:
        raise Twice("a tool that is there already")
    return _with_more(drawing, "tools", edit[1:], MOST_TOOLS)


def _laid(drawing, edit):
    if edit[1:] not in drawing["tools"]:
        raise NoTool(edit[1:])
    return _with_other(drawing, "tools", drawing["tools"].index(edit[1:]), ())


def _need_points(drawing, names):
    for name in names:
        if name not in names_of(drawing["points"]):
            raise NoPoint(name)


def _need_saying(drawing, number):
    if number >= len(drawing["sayings"]):
        raise NoSaying(number)


def _need_feature(drawing, number):
    if number >= len(drawing["features"]):
        raise NoFeature(number)


def _need_height(drawing, height):
    if height > drawing["block"][2]:
        raise OutOfPlace("a height above that of the block")


ACTIONS = {
    "place": _placed,
    "settle": _settled,
    "say": _said,
    "unsay": _unsaid,
    "renumber": _renumbered,
    "draw": _drawn,
    "erase": _erased,
    "lift": _lifted,
    "take": _taken,
    "lay": _laid,
}
