"""A drawing that is edited, and all that is made of it."""

from panelworks.bodies import need_block
from panelworks.editing import edited
from panelworks.edits import need_edit
from panelworks.errors import MissError, Nothing, WorksError
from panelworks.made import Made
from panelworks.steps import need_depth
from panelworks.ways import left_by, time_of
from panelworks.words import DEPTH

CHANGES = ("places", "pieces", "target", "least", "reach")


class Work:
    """A block with points, sayings, features and tools; an edit that is refused changes nothing but the log."""

    def __init__(self, block, *, depth=DEPTH):
        need_block(block)
        need_depth(depth)
        drawing = {"block": block, "depth": depth, "points": (), "sayings": (), "features": (), "tools": ()}
        self._made = Made(drawing, None)
        # The edits that stand, each with what was made ahead of it, and those undone, with what was made behind.
        self._done = []
        self._undone = []
        self._log = []
        self._busy = False
        # The number of the edit within a "many" that is being done, -1 outside of them.
        self._within = -1

    def do(self, edit):
        """Do an edit; the words of what changed."""
        # Each call has two rows in the log.
        self._log.append(("begun", len(self._log) // 2 + 1))
        self._within = -1
        self._busy = True
        try:
            need_edit(edit)
            made = Made(self._drawing_behind(edit), self._made)
        except (WorksError, MissError):
            self._log.append(("refused", self._within))
            raise
        finally:
            self._busy = False
        changed = tuple([word for word in CHANGES if made.answers[word] != self._made.answers[word]])
        self._done.append((edit, self._made))
        self._undone = []
        self._made = made
        self._log.append(("done", changed))
        return changed

    def many(self, edits):
        """Do edits one behind the other, as one."""
        return self.do(("many", edits))

    def put(self, name, x, y):
        """Place a point."""
        return self.do(("place", name, x, y))

    def settle(self):
        """Place all points where they stand."""
        return self.do(("settle",))

    def say(self, saying):
        """Say something of points."""
        return self.do(("say", saying))

    def unsay(self, number):
        """Take a saying away."""
        return self.do(("unsay", number))

    def renumber(self, number, to):
        """Give a saying another number."""
        return self.do(("renumber", number, to))

    def draw(self, outline, height):
        """Draw a feature."""
        return self.do(("draw", outline, height))

    def erase(self, number):
        """Take a feature away."""
        return self.do(("erase", number))

    def lift(self, number, height):
        """Give a feature another height."""
        return self.do(("lift", number, height))

    def take(self, side, length):
        """Take a tool."""
        return self.do(("take", side, length))

    def lay(self, side, length):
        """Lay a tool away."""
        return self.do(("lay", side, length))

    def undo(self):
        """Undo the last edit that stands, and tell it."""
        if len(self._done) == 0:
            raise Nothing("no edit to be undone")
        edit, ahead = self._done.pop()
        self._undone.append((edit, self._made))
        self._made = ahead
        return edit

    def redo(self):
        """Do the edit again that was undone last, and tell it."""
        if len(self._undone) == 0:
            raise Nothing("no edit to be done again")
        edit, behind = self._undone.pop()
        self._done.append((edit, self._made))
        self._made = behind
        return edit

    def block(self):
        """The block."""
        return self._made.drawing["block"]

    def depth(self):
        """The depth."""
        return self._made.drawing["depth"]

    def points(self):
        """The points as they were placed."""
        return self._made.drawing["points"]

    def sayings(self):
        """The sayings."""
        return self._made.drawing["sayings"]

    def features(self):
        """The features."""
        return self._made.drawing["features"]

    def tools(self):
        """The tools."""
        return self._made.drawing["tools"]

    def places(self):
        """Where the points stand."""
        return self._made.answers["places"]

    def pieces(self):
        """The pieces of the body."""
        return self._made.answers["pieces"]

    def target(self):
        """The target field."""
        return self._made.answers["target"]

    def least(self):
        """The least field."""
        return self._made.answers["least"]

    def reach(self):
        """What the tools reach."""
        return self._made.answers["reach"]

    def way(self):
        """A way that leaves what the tools reach."""
        return self._made.way()

    def thing(self):
        """What stands behind the way."""
        return left_by(self.target(), self.way(), depth=self.depth())

    def time(self):
        """The time of the way."""
        return time_of(self.target(), self.way(), depth=self.depth())

    def edits(self):
        """The edits that stand."""
        return [edit for edit, _ in self._done]

    def log(self):
        """What the calls came to that do an edit."""
        return list(self._log)

    def busy(self):
        """Whether an edit is being done."""
        return self._busy

    def copied(self):
        """Another one that goes on by itself."""
        made = Work(self.block(), depth=self.depth())
        made._made = self._made
        made._done = list(self._done)
        made._undone = list(self._undone)
        made._log = list(self._log)
        return made

    def __eq__(self, other):
        return isinstance(other, Work) and self._made.drawing == other._made.drawing

    def __len__(self):
        return len(self._done)

    def __str__(self):
        return f"work of {len(self.points())} points"

    def _drawing_behind(self, edit):
        """The drawing behind an edit; refuse it by what it names."""
        drawing = self._made.drawing
        if edit[0] != "many":
            return edited(drawing, edit)
        for number, one in enumerate(edit[1]):
            self._within = number
            drawing = edited(drawing, one)
        # Only now it is looked at what stands behind all of them.
        self._within = -1
        return drawing
