"""Tools at their places, and how low all of them may stand by a stock."""

from panelworks.fields import height_of, plain_sides
from panelworks.tools import plain_places, plain_ring, plain_under


class Seat:
    """A tool at a place: what is under it and round it, and the least height by the targets alone.

    What stands in each cell is handed in as a dict.
    """

    def __init__(self, field, tool, place):
        sides = plain_sides(field)
        self.tool = tool
        self.place = place
        self.under = plain_under(sides, tool, place)
        self.ring = plain_ring(sides, tool, place)
        self.floor = max([height_of(field, cell) for cell in self.under])

    def lowest_by(self, heights):
        """The lowest height at which the tool may stand there."""
        _, length = self.tool
        return max([self.floor] + [heights[cell] - length for cell in self.ring])

    def higher_than(self, heights, height):
        """The cells under it that stand above a height."""
        return [cell for cell in self.under if heights[cell] > height]

    def is_useful(self, heights):
        """Whether anything goes there as low as it may stand."""
        return len(self.higher_than(heights, self.lowest_by(heights))) > 0


def seats_of(field, tools):
    """All tools, in their order, at all their places, rising."""
    sides = plain_sides(field)
    return [Seat(field, tool, place) for tool in tools for place in plain_places(sides, tool)]


def stands_to_reach(seats, heights):
    """A row of stands, each of which may be behind those ahead, till none takes anything away any more.

    The heights are those at the beginning; they aren't changed.
    """
    now = {cell: heights[cell] for cell in heights}
    stands = []
    many = -1
    while many < len(stands):
        many = len(stands)
        for seat in seats:
            height = seat.lowest_by(now)
            lowered = seat.higher_than(now, height)
            if len(lowered) > 0:
                stands.append((seat.tool, seat.place, height))
                for cell in lowered:
                    now[cell] = height
    return stands
