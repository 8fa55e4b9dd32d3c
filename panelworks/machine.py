"""A machine that does steps, and keeps what they came to."""

from panelworks.errors import BadWay, Beyond, Blocked, Lifted, Lowered, NoToolThere, Nothing, OutOfPlace, TooDeep
from panelworks.fields import cells_of, height_of, need_field, plain_sides
from panelworks.steps import first_state, need_depth, step_done
from panelworks.waytext import way_text
from panelworks.words import DEPTH


class Machine:
    """The state behind all steps that were done; a step that is refused changes nothing but the log."""

    def __init__(self, field, *, depth=DEPTH):
        need_field(field)
        need_depth(depth)
        wide, long = plain_sides(field)
        self._depth = depth
        self._state = first_state(field)
        self._time = 0
        self._taken = 0
        self._marks = ((None,) * wide,) * long
        self._steps = []
        # The state, the time, what was taken and the marks ahead of each step.
        self._ahead = []
        self._log = []
        self._runs = []
        self._busy = False

    def do(self, step):
        """Do a step, and tell its time."""
        state, time, taken = self._tried(step)
        self._ahead.append((self._state, self._time, self._taken, self._marks))
        self._marks = _marks_behind(self._marks, self._state[4], state[4], len(self._steps))
        self._state = state
        self._time += time
        self._taken += taken
        self._steps.append(step)
        self._log.append(("done", step, time))
        return time

    def run(self, steps):
        """Do steps one by one, up to the first that is refused; how many were done."""
        if not isinstance(steps, (list, tuple)):
            raise BadWay(None)
        row = list(steps)
        many = len(row)
        done = 0
        self._busy = True
        try:
            for step in row:
                self.do(step)
                done += 1
        finally:
            self._busy = False
            self._runs.append((many, done))
        return done

    def back(self):
        """Take the last step back, and tell it."""
        if len(self._steps) == 0:
            self._refuse("nothing")
            raise Nothing("no step to be taken back")
        self._state, self._time, self._taken, self._marks = self._ahead.pop()
        step = self._steps.pop()
        self._log.append(("back", step))
        return step

    def state(self):
        """The state of the machine."""
        return self._state

    def stock(self):
        """What stands."""
        return self._state[4]

    def time(self):
        """The time of all steps."""
        return self._time

    def taken(self):
        """How many levels were taken away."""
        return self._taken

    def steps(self):
        """All steps that are done, as a way."""
        return tuple(self._steps)

    def marks(self):
        """Row by row the number of the last step that took something from each cell, None without one."""
        return self._marks

    def log(self):
        """All that was done, taken back and refused."""
        return list(self._log)

    def runs(self):
        """Of each row of steps how many there were, and how many of them were done."""
        return list(self._runs)

    def busy(self):
        """Whether a row of steps is being done."""
        return self._busy

    def copied(self):
        """Another one that goes on by itself."""
        made = Machine(self._state[4], depth=self._depth)
        made._state = self._state
        made._time = self._time
        made._taken = self._taken
        made._marks = self._marks
        made._steps = list(self._steps)
        made._ahead = list(self._ahead)
        made._log = list(self._log)
        made._runs = list(self._runs)
        return made

    def __eq__(self, other):
        return (
            isinstance(other, Machine)
            and self._depth == other._depth
            and self._state == other._state
            and self._time == other._time
            and self._marks == other._marks
        )

    def __len__(self):
        return len(self._steps)

    def __str__(self):
        return str(way_text(tuple(self._steps)))

    def _tried(self, step):
        """What a step comes to; the log has the word of its refusal."""
        try:
            return step_done(self._state, step, depth=self._depth)
        except BadWay:
            self._refuse("step")
            raise
        except NoToolThere:
            self._refuse("tool")
            raise
        except Lowered:
            self._refuse("lowered")
            raise
        except Lifted:
            self._refuse("lifted")
            raise
        except Beyond:
            self._refuse("beyond")
            raise
        except OutOfPlace:
            self._refuse("place")
            raise
        except Blocked:
            self._refuse("blocked")
            raise
        except TooDeep:
            self._refuse("deep")
            raise

    def _refuse(self, word):
        self._log.append(("refused", word))


def _marks_behind(marks, ahead, behind, number):
    """The marks behind a step of that number, by what stands ahead of it and behind it."""
    rows = [list(row) for row in marks]
    for i, j in cells_of(behind):
        if height_of(behind, (i, j)) < height_of(ahead, (i, j)):
            rows[j][i] = number
    return tuple([tuple(row) for row in rows])
