"""Steps that leave what tools reach: stand by stand, or by cuts from place to place."""

from panelworks.fields import heights_of, neighbours
from panelworks.seats import seats_of, stands_to_reach
from panelworks.tools import by_size, solid


def plain_steps(field, tools, depth):
    """The steps of the plain way: a tool goes to a place, comes down as low as it may, and is lifted."""
    steps = []
    heights = heights_of(solid(field))
    turn = _next_turn(field, tools, depth, heights)
    while turn is not None:
        for _, place, lowest in stands_to_reach(turn.seats, heights):
            turn.go(place)
            while turn.height > lowest:
                turn.sink(lowest)
            turn.up()
        steps.extend(turn.steps)
        turn = _next_turn(field, tools, depth, heights)
    return steps


def swept_steps(field, tools, depth):
    """Steps by which a tool goes to the nearest place where anything goes, sinks and cuts, and is lifted."""
    steps = []
    heights = heights_of(solid(field))
    turn = _next_turn(field, tools, depth, heights)
    while turn is not None:
        place = turn.nearest()
        while place is not None:
            turn.go(place)
            turn.sweep()
            turn.up()
            place = turn.nearest()
        steps.extend(turn.steps)
        turn = _next_turn(field, tools, depth, heights)
    return steps


class Turn:
    """A tool that is taken, and its steps till nothing more goes with it.

    What stands in each cell is handed in as a dict, which the steps change.
    """

    def __init__(self, seats, heights, high, depth):
        self.seats = seats
        self.at = {seat.place: seat for seat in seats}
        self.heights = heights
        self.high = high
        self.depth = depth
        self.place = (0, 0)
        self.height = high
        self.steps = [("tool",) + seats[0].tool]

    def go(self, place):
        """Go to a place, lifted."""
        if place != self.place:
            self.steps.append(("go",) + place)
            self.place = place

    def up(self):
        """Be lifted."""
        self.steps.append(("up",))
        self.height = self.high

    def sink(self, lowest):
        """Come down as far as may be at once, but no lower than told."""
        self.height = max(self.height - self.depth, lowest)
        self.steps.append(("down", self.height))
        self._take()

    def cut(self, place):
        """Cut to a place beside the one where it is."""
        self.place = place
        self.steps.append(("cut",) + place)
        self._take()

    def sweep(self):
        """Sink; then cut on wherever that takes something away, and sink again where nothing more does."""
        path = ()
        sinks = True
        while path is not None:
            for place in path:
                self.cut(place)
            if sinks:
                self.sink(self._lowest(self.place))
            path = self._path_on(False)
            sinks = path is None
            if sinks:
                path = self._path_on(True)

    def nearest(self):
        """The nearest place where anything goes, None without one."""
        i, j = self.place
        found = [(abs(seat.place[0] - i) + abs(seat.place[1] - j), seat.place) for seat in self._useful()]
        if len(found) == 0:
            return None
        return min(found)[1]

    def _useful(self):
        return [seat for seat in self.seats if seat.is_useful(self.heights)]

    def _lowest(self, place):
        return self.at[place].lowest_by(self.heights)

    def _take(self):
        for cell in self.at[self.place].higher_than(self.heights, self.height):
            self.heights[cell] = self.height

    def _path_on(self, sinks):
        """The shortest row of cuts to a place where more goes, by the last cut or by sinking there; None without."""
        paths = {self.place: ()}
        row = [self.place]
        while len(row) > 0:
            following = []
            for place in row:
                if self._is_wanted(place, sinks):
                    return paths[place]
                for other in self._beside(place):
                    if other not in paths:
                        paths[other] = paths[place] + (other,)
                        following.append(other)
            row = following
        return None

    def _is_wanted(self, place, sinks):
        seat = self.at[place]
        if sinks:
            return seat.is_useful(self.heights) and self._lowest(place) < self.height
        return len(seat.higher_than(self.heights, self.height)) > 0

    def _beside(self, place):
        """The places beside a place to which it may cut, as low as it is."""
        return [other for other in neighbours(place) if self._may_cut(other)]

    def _may_cut(self, place):
        if place not in self.at or self._lowest(place) > self.height:
            return False
        return len(self.at[place].higher_than(self.heights, self.height + self.depth)) == 0


def _next_turn(field, tools, depth, heights):
    """The turn of the first tool with which anything goes, by size; None without one."""
    for tool in by_size(tools):
        seats = seats_of(field, (tool,))
        if any([seat.is_useful(heights) for seat in seats]):
            return Turn(seats, heights, field[0], depth)
    return None
