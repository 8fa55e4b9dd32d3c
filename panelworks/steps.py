"""States of the machine, and steps that lead from one to the next."""

from panelworks.errors import BadWay, Beyond, Blocked, Lifted, Lowered, NoToolThere, OutOfPlace, TooDeep
from panelworks.fields import field_by, heights_of, is_field, need_field, plain_sides
from panelworks.forms import are_of, word_of
from panelworks.tools import first_of_ring, is_place_of, is_tool, need_tools, plain_under, solid
from panelworks.words import DEPTH, MOST_HIGH, MOST_LENGTH, MOST_SIDE, MOST_TOOL, is_among

# What stands behind the word of each sort of step, one thing after the other.
STEP_FORMS = {
    "tool": ("side", "length"),
    "go": ("place", "place"),
    "down": ("height",),
    "cut": ("place", "place"),
    "up": (),
}

# What a tool takes, what each level takes on the way down and on the way up, and what each cell of a cut
# takes where something goes, and where nothing does.
TOOL_TIME = 20
DOWN_TIME = 2
UP_TIME = 1
CUT_TIME = 3
PASS_TIME = 1


def is_step(thing):
    """Whether it is a step."""
    word = word_of(thing)
    return word in STEP_FORMS and are_of(STEP_FORMS[word], thing[1:], fits_step)


def first_state(field):
    """The state of the machine ahead of all steps."""
    stock = solid(field)
    return ((), 0, 0, stock[0], stock)


def is_state(field, thing):
    """Whether it is a state by its form, of a stock as high, wide and long as a field."""
    need_field(field)
    if not isinstance(thing, tuple) or len(thing) != 5:
        return False
    tool, i, j, height, stock = thing
    if not is_field(stock) or stock[0] != field[0] or plain_sides(stock) != plain_sides(field):
        return False
    if isinstance(tool, tuple) and len(tool) == 0:
        return is_among(i, 0, 0) and is_among(j, 0, 0) and is_among(height, field[0], field[0])
    if not is_tool(tool) or not is_place_of(plain_sides(field), tool, (i, j)):
        return False
    return is_among(height, 0, field[0])


def step_done(state, step, *, depth=DEPTH):
    """The state behind a step, the time that it takes, and how many levels it takes away."""
    need_depth(depth)
    if not is_step(step):
        raise BadWay(None)
    _need_sense(state, step)
    tool, i, j, height, stock = state
    word = step[0]
    if word == "tool":
        return ((step[1:], 0, 0, height, stock), TOOL_TIME, 0)
    if word == "go":
        return ((tool, step[1], step[2], height, stock), abs(step[1] - i) + abs(step[2] - j), 0)
    if word == "up":
        return ((tool, i, j, stock[0], stock), UP_TIME * (stock[0] - height), 0)
    if word == "down":
        following, taken = _taken_down(stock, tool, (i, j), step[1], depth)
        return ((tool, i, j, step[1], following), DOWN_TIME * (height - step[1]), taken)
    return _cut(state, step, depth)


def need_work(field, tools, depth):
    """Refuse what is no field, what are no tools, and what is no depth."""
    need_field(field)
    need_tools(tools)
    need_depth(depth)


def need_way(way):
    """Refuse what is no tuple of steps."""
    if not isinstance(way, tuple):
        raise BadWay(None)
    for number, step in enumerate(way):
        if not is_step(step):
            raise BadWay(number)


def fits_step(kind, part):
    """Whether a part of a step is of the kind that is due there."""
    if kind == "side":
        return is_among(part, 1, MOST_TOOL)
    if kind == "length":
        return is_among(part, 1, MOST_LENGTH)
    if kind == "height":
        return is_among(part, 0, MOST_HIGH - 1)
    return is_among(part, 1 - MOST_TOOL, MOST_SIDE - 1)


def need_depth(depth):
    """Refuse what is no depth."""
    if not is_among(depth, 1, MOST_HIGH):
        raise OutOfPlace("no depth")


def _need_sense(state, step):
    """Refuse a step that a state doesn't allow, whatever stands there."""
    tool, i, j, height, stock = state
    word = step[0]
    if word != "tool" and tool == ():
        raise NoToolThere("a step without a tool")
    if word in ("tool", "go") and height < stock[0]:
        raise Lowered("a step that goes lifted alone")
    if word in ("cut", "up") and height == stock[0]:
        raise Lifted("a step that goes lowered alone")
    if word in ("go", "cut") and not is_place_of(plain_sides(stock), tool, step[1:]):
        raise Beyond(step[1:])
    if word == "go" and step[1:] == (i, j):
        raise OutOfPlace("a go to where it is")
    if word == "down" and step[1] >= height:
        raise OutOfPlace("a down to no lesser height")
    if word == "cut" and (step[1] == i) == (step[2] == j):
        raise OutOfPlace("a cut that isn't along just one axis")


def _taken_down(stock, tool, place, height, depth):
    """What is left of a stock by a tool lowered at a place, and how many levels go."""
    cell = first_of_ring(stock, tool, place, height)
    if cell is not None:
        raise Blocked(cell)
    heights = heights_of(stock)
    taken = 0
    for cell in plain_under(plain_sides(stock), tool, place):
        more = max(heights[cell] - height, 0)
        if more > depth:
            raise TooDeep(cell)
        heights[cell] -= more
        taken += more
    return field_by(stock, heights), taken


def _cut(state, step, depth):
    """The state behind a cut, cell by cell, with its time and what it takes away."""
    tool, i, j, height, stock = state
    time = taken = 0
    for place in _places_between((i, j), step[1:]):
        stock, more = _taken_down(stock, tool, place, height, depth)
        taken += more
        if more > 0:
            time += CUT_TIME
        else:
            time += PASS_TIME
    return ((tool, step[1], step[2], height, stock), time, taken)


def _places_between(start, end):
    """The places from behind one to another one on the same line along an axis."""
    by = max(start[0] - end[0], end[0] - start[0], start[1] - end[1], end[1] - start[1])
    along = (end[0] - start[0]) // by
    up = (end[1] - start[1]) // by
    return [(start[0] + along * number, start[1] + up * number) for number in range(1, by + 1)]
