"""A stock that is lowered stand by stand."""

from panelworks.errors import Blocked, Nothing, NoTool
from panelworks.fields import field_by, heights_of, need_field, plain_sides
from panelworks.reach import after_round
from panelworks.seats import seats_of
from panelworks.tools import first_in_way, need_height, need_place, need_tool, need_tools, plain_under, solid


class Stock:
    """The stock of a field, solid at first, and the stands that were done; one that is refused changes nothing."""

    def __init__(self, field, tools):
        need_field(field)
        need_tools(tools)
        self._target = field
        self._tools = tools
        # Two stocks are alike by their tools in whatever order.
        self._kinds = sorted(tools)
        self._now = solid(field)
        self._stands = []
        # What stood ahead of each stand.
        self._ahead = []

    def stand(self, tool, place, height):
        """Let a tool stand at a place and a height; how many cells it lowered."""
        need_tool(tool)
        if tool not in self._tools:
            raise NoTool(tool)
        need_place(plain_sides(self._target), tool, place)
        need_height(self._target, height)
        cell = first_in_way(self._target, self._now, tool, place, height)
        if cell is not None:
            raise Blocked(cell)
        heights = heights_of(self._now)
        under = plain_under(plain_sides(self._target), tool, place)
        lowered = [one for one in under if heights[one] > height]
        for one in lowered:
            heights[one] = height
        self._stands.append((tool, place, height))
        self._ahead.append(self._now)
        self._now = field_by(self._target, heights)
        return len(lowered)

    def back(self):
        """Take the last stand back, and tell it."""
        if len(self._stands) == 0:
            raise Nothing("no stand to be taken back")
        self._now = self._ahead.pop()
        return self._stands.pop()

    def field(self):
        """What stands."""
        return self._now

    def stands(self):
        """All stands that were done, in their order."""
        return list(self._stands)

    def is_reached(self):
        """Whether no stand takes anything away any more."""
        seats = seats_of(self._target, self._tools)
        return after_round(self._target, seats, self._now) == self._now

    def copied(self):
        """Another one that goes on by itself."""
        made = Stock(self._target, self._tools)
        made._now = self._now
        made._stands = list(self._stands)
        made._ahead = list(self._ahead)
        return made

    def __eq__(self, other):
        return (
            isinstance(other, Stock)
            and self._target == other._target
            and self._kinds == other._kinds
            and self._now == other._now
        )

    def __len__(self):
        return len(self._stands)
