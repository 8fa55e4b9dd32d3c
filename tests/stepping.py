"""Steps and ways by chance, and what they come to straight by the words of the document."""

from panelworks.errors import (
    BadField,
    BadTools,
    BadWay,
    Beyond,
    Blocked,
    Lifted,
    Lowered,
    NoToolThere,
    OutOfPlace,
    TooDeep,
)

from tests.helpers import NO_FIELDS, NO_TOOLS, ODD_THINGS, at, cells_of, least_stock, ring, under

NO_STEPS = ODD_THINGS + (
    ("tool", 0, 1),
    ("tool", 5, 1),
    ("tool", 1, 0),
    ("tool", 1, 7),
    ("tool", 1),
    ("tool", 1, 1, 1),
    ("tool", True, 1),
    ("tool", (1, 1)),
    ("go", -4, 0),
    ("go", 8, 0),
    ("go", 0, -4),
    ("go", 0, 8),
    ("go", 0),
    ("go", 0, 0, 0),
    ("go", (0, 0)),
    ("go", 0, None),
    ("cut", -4, 0),
    ("cut", 0, 8),
    ("cut", "0", 0),
    ("cut", 0),
    ("cut", False, 1),
    ("down", -1),
    ("down", 6),
    ("down",),
    ("down", 1, 1),
    ("down", 1.0),
    ("down", True),
    ("up", 1),
    ("up", ()),
    "up",
    ["up"],
    ["go", 0, 0],
    ("Up",),
    ("left", 1, 1),
    ((), 0),
    (["up"],),
    (1, 2, 3),
)


def by_words(state, step, depth):
    """What a step must come to, straight by the words of the document: a state, or a refusal's class and place."""
    tool, i, j, height, stock = state
    word, high = step[0], stock[0]
    if word != "tool" and tool == ():
        return NoToolThere, None
    if word in ("tool", "go") and height != high:
        return Lowered, None
    if word in ("cut", "up") and height == high:
        return Lifted, None
    if word in ("go", "cut") and not under(stock, tool, step[1:]):
        return Beyond, step[1:]
    if word == "tool":
        return (step[1:], 0, 0, high, stock), 20, 0
    if word == "up":
        return (tool, i, j, high, stock), high - height, 0
    if word == "go":
        if step[1:] == (i, j):
            return OutOfPlace, None
        return (tool,) + step[1:] + (high, stock), abs(step[1] - i) + abs(step[2] - j), 0
    time = taken = 0
    if word == "down":
        if step[1] >= height:
            return OutOfPlace, None
        time, height, way = 2 * (height - step[1]), step[1], [(i, j)]
    else:
        if (step[1] != i) + (step[2] != j) != 1:
            return OutOfPlace, None
        way = []
        while (i, j) != step[1:]:
            i, j = i + (step[1] > i) - (step[1] < i), j + (step[2] > j) - (step[2] < j)
            way.append((i, j))
    heights = {cell: at(stock, cell) for cell in cells_of(stock)}
    for place in way:
        for cell in sorted(ring(stock, tool, place)):
            if heights[cell] > height + tool[1]:
                return Blocked, cell
        gone = 0
        for cell in sorted(under(stock, tool, place)):
            if heights[cell] - height > depth:
                return TooDeep, cell
        for cell in under(stock, tool, place):
            gone += max(0, heights[cell] - height)
            heights[cell] = min(heights[cell], height)
        taken += gone
        if word == "cut":
            time += 3 if gone else 1
    rows = tuple(tuple(heights[x, y] for x in range(len(row))) for y, row in enumerate(stock[1]))
    return (tool, i, j, height, (high, rows)), time, taken


def any_step(chance, field, state):
    """A step by chance, often one that may be done."""
    _, i, j, height, _ = state
    word = chance.choice(("tool", "go", "down", "down", "cut", "cut", "cut", "up"))
    if word == "tool":
        return ("tool", chance.randint(1, 4), chance.randint(1, 6))
    if word == "up":
        return ("up",)
    if word == "down":
        return ("down", min(5, max(0, height - chance.randint(0, 3))))
    if word == "cut" and chance.random() < 0.9:
        by = chance.choice((-3, -2, -1, 1, 2, 3))
        there = chance.choice(((i + by, j), (i, j + by)))
        return ("cut",) + tuple(min(7, max(-3, one)) for one in there)
    wide, long = len(field[1][0]), len(field[1])
    return (word, chance.randint(-2, min(wide, 7)), chance.randint(-2, min(long, 7)))


def first(field):
    """The state ahead of all steps, by the words of the document."""
    high = field[0]
    return ((), 0, 0, high, (high, tuple((high,) * len(row) for row in field[1])))


def rows_by_words(field, way, depth):
    """Of each step, up to the first that is refused, the state behind it, its time and what it takes."""
    state, found = first(field), []
    for step in way:
        told = by_words(state, step, depth)
        if not isinstance(told[0], tuple):
            break
        found.append(told)
        state = told[0]
    return found


def left_by_words(field, way, depth):
    """What stands behind a way, the steps behind a refused one not being done."""
    return ([first(field)] + [row[0] for row in rows_by_words(field, way, depth)])[-1][4]


def way_from(chance, field, depth, many, wrong=0.0):
    """A way by chance, of steps that aren't refused, but for a part of them."""
    state, way = first(field), []
    while len(way) < many:
        step = any_step(chance, field, state)
        told = by_words(state, step, depth)
        if isinstance(told[0], tuple):
            state = told[0]
        elif chance.random() >= wrong:
            continue
        way.append(step)
    return tuple(way)


def fit_by_words(field, tools, way, depth):
    """Whether a way is fit, straight by the words of the document."""
    if len(rows_by_words(field, way, depth)) < len(way):
        return False
    if not {step[1:] for step in way if step[0] == "tool"} <= set(tools):
        return False
    return left_by_words(field, way, depth) == least_stock(field, tools)


# What is refused, with the error and what its fields tell.
WRONG_FIELDS = [(thing, BadField, (place,)) for thing, place in NO_FIELDS]
WRONG_TOOLS = [(thing, BadTools, (None,)) for thing in (None, True, 2, "", "ab", [], [(1, 1)], {}, object())]
WRONG_TOOLS += [(((1, 1), (1, 2), (1, 3), (1, 4), (1, 5)), BadTools, (None,)), ((None,) * 5, BadTools, (None,))]
WRONG_TOOLS += [((thing,), BadTools, (0,)) for thing in NO_TOOLS]
WRONG_TOOLS += [(((1, 1), (2, 1), thing, None), BadTools, (2,)) for thing in NO_TOOLS + ((1, 1), (2, 1))]
WRONG_DEPTHS = [(thing, OutOfPlace, ()) for thing in ODD_THINGS + (0, 7, -1, 2.0, "2", (2,))]
WRONG_WAYS = [(thing, BadWay, (None,)) for thing in (None, True, 1, "up", "", [], [("up",)], {}, b"", object())]
WRONG_WAYS += [((thing,), BadWay, (0,)) for thing in NO_STEPS]
WRONG_WAYS += [((("up",), ("go", 0, 0), thing, None, ("up",)), BadWay, (2,)) for thing in NO_STEPS]
WRONG_WAYS += [((("up",), ["up"], ()), BadWay, (1,)), (("up",), BadWay, (0,)), (("go", 0, 0), BadWay, (0,))]
