"""Ways: what their steps come to, whether they are fit, and two that are."""

from panelworks.errors import FaultError, OutOfPlace
from panelworks.fields import need_field
from panelworks.reach import reached
from panelworks.steps import first_state, need_depth, need_way, need_work, step_done
from panelworks.sweeps import plain_steps, swept_steps
from panelworks.words import DEPTH


def gone(field, way, *, depth=DEPTH):
    """Each step of a way with its time and what it takes away, None where a step is refused."""
    done = _done_whole(field, way, depth)
    if done is None:
        return None
    return [(step, time, taken) for step, (_, time, taken) in zip(way, done)]


def left_by(field, way, *, depth=DEPTH):
    """What stands behind a way, None where a step of it is refused."""
    done = _done_whole(field, way, depth)
    if done is None:
        return None
    return stock_behind(field, done)


def time_of(field, way, *, depth=DEPTH):
    """The time of a way, None where a step of it is refused."""
    done = _done_whole(field, way, depth)
    if done is None:
        return None
    return sum([time for _, time, _ in done])


def is_fit(field, tools, way, *, depth=DEPTH):
    """Whether no step of a way is refused, and it takes these tools alone and leaves just what they reach."""
    need_work(field, tools, depth)
    done = _done_whole(field, way, depth)
    if done is None:
        return False
    if not all([step[1:] in tools for step in way if step[0] == "tool"]):
        return False
    return stock_behind(field, done) == reached(field, tools)


def plain_way(field, tools, *, depth=DEPTH):
    """The way that lowers tool by tool at place by place, as low as it may stand there."""
    need_work(field, tools, depth)
    return tuple(plain_steps(field, tools, depth))


def made_way(field, tools, *, depth=DEPTH):
    """A fit way that takes no more time than the plain one."""
    need_work(field, tools, depth)
    # What lifts the tool at the end is of no use any more.
    plain = tuple(plain_steps(field, tools, depth)[:-1])
    swept = tuple(swept_steps(field, tools, depth)[:-1])
    if time_of(field, swept, depth=depth) < time_of(field, plain, depth=depth):
        return swept
    return plain


def walked(field, way, depth):
    """The state, the time and what is taken away of each step of a way, up to the first that is refused."""
    done = []
    state = first_state(field)
    for step in way:
        try:
            one = step_done(state, step, depth=depth)
        except (FaultError, OutOfPlace):
            break
        done.append(one)
        state = one[0]
    return done


def stock_behind(field, done):
    """What stands behind all steps that were done."""
    if len(done) == 0:
        return first_state(field)[4]
    return done[-1][0][4]


def _done_whole(field, way, depth):
    """What walked tells of a way, None where a step of it is refused; refuse what is none of these."""
    need_field(field)
    need_depth(depth)
    need_way(way)
    done = walked(field, way, depth)
    if len(done) < len(way):
        return None
    return done
