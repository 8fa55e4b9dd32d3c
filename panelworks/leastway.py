"""Small fields: ways of the least time, papers that show it, and their looker."""

from heapq import heappop, heappush

from panelworks.errors import BadPaper, BadWay, FaultError, OutOfPlace, TooGreat
from panelworks.fields import is_nowhere_below, need_field, neighbours, plain_sides
from panelworks.reach import reached
from panelworks.steps import first_state, is_state, need_way, need_work, step_done
from panelworks.tools import need_tools
from panelworks.ways import is_fit, time_of
from panelworks.words import DEPTH, is_whole

# Up to these a field and tools are small.
MOST_UNITS = 6
MOST_SMALL_TOOLS = 2
MOST_SMALL_SIDE = 2


def is_small(field, tools):
    """Whether a field and tools are so small that the least time is looked for."""
    need_field(field)
    need_tools(tools)
    wide, long = plain_sides(field)
    if wide * long * field[0] > MOST_UNITS or len(tools) > MOST_SMALL_TOOLS:
        return False
    return all([side <= MOST_SMALL_SIDE for side, _ in tools])


def least_way(field, tools, *, depth=DEPTH):
    """A fit way of the least time."""
    way, _ = least_paper(field, tools, depth=depth)
    return way


def least_paper(field, tools, *, depth=DEPTH):
    """A paper that shows the least time: of each state that is nearer to the first one, what is left of it."""
    _need_small(field, tools, depth)
    times, ahead, last = _searched(field, tools, depth)
    least = times[last]
    potentials = [(state, least - times[state]) for state in times if times[state] < least]
    return (_way_to(ahead, last), tuple(potentials))


def check_least(field, tools, paper, *, depth=DEPTH):
    """The least time that a paper shows; refuse one that doesn't come out."""
    _need_small(field, tools, depth)
    if not isinstance(paper, tuple) or len(paper) != 2 or not isinstance(paper[1], tuple):
        raise BadPaper(None)
    way, potentials = paper
    try:
        need_way(way)
    except BadWay:
        raise BadPaper(None) from None
    if not is_fit(field, tools, way, depth=depth):
        raise BadPaper(("way",))
    goal = reached(field, tools)
    numbers = _numbers_of(field, goal, potentials)
    for row, (state, number) in enumerate(potentials):
        for _, following, time in _moves(state, tools, goal, depth):
            if numbers.get(following, 0) < number - time:
                raise BadPaper(("move", row))
    least = time_of(field, way, depth=depth)
    if numbers.get(first_state(field), 0) != least:
        raise BadPaper(("first",))
    return least


def _need_small(field, tools, depth):
    need_work(field, tools, depth)
    if not is_small(field, tools):
        raise TooGreat("a field or tools that aren't small")


def _searched(field, tools, depth):
    """The least times of states from the first one on, the state and the step ahead of each, the first goal.

    Of the states that are no nearer than the goal some are told by a greater time.
    """
    goal = reached(field, tools)
    state = first_state(field)
    times = {state: 0}
    ahead = {}
    queue = []
    while state[4] != goal:
        for step, following, more in _moves(state, tools, goal, depth):
            time = times[state] + more
            if following not in times or time < times[following]:
                times[following] = time
                ahead[following] = (state, step)
                heappush(queue, (time, following))
        _, state = heappop(queue)
    return times, ahead, state


def _way_to(ahead, last):
    """The steps from the first state to a last one."""
    steps = []
    state = last
    while state in ahead:
        state, step = ahead[state]
        steps.append(step)
    return tuple(steps[::-1])


def _moves(state, tools, goal, depth):
    """The moves from a state, none of which leaves less than the goal: the step, the state behind it, its time."""
    _, i, j, height, _ = state
    steps = [("tool",) + tool for tool in tools]
    steps.extend([("down", height - 1), ("up",)])
    for place in neighbours((i, j)):
        steps.extend([("go",) + place, ("cut",) + place])
    found = []
    for step in steps:
        try:
            following, time, _ = step_done(state, step, depth=depth)
        except (BadWay, OutOfPlace, FaultError):
            continue
        if is_nowhere_below(following[4], goal):
            found.append((step, following, time))
    return found


def _numbers_of(field, goal, potentials):
    """The numbers of states by a paper; refuse it by the first row that can't be."""
    numbers = {}
    for row, pair in enumerate(potentials):
        if not isinstance(pair, tuple) or len(pair) != 2 or not is_state(field, pair[0]):
            raise BadPaper(("row", row))
        state, number = pair
        if not is_whole(number) or number < 1 or state in numbers or state[4] == goal:
            raise BadPaper(("row", row))
        numbers[state] = number
    return numbers
