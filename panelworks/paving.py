"""Pavings of fair loops, and their looker."""

from panelworks.errors import BadPaper
from panelworks.fractions import total
from panelworks.ground import ground_of
from panelworks.outlines import box_of, edges_of, loop_area
from panelworks.rectangles import bounds_of, goes_into, is_rectangle, middle_of, size_of
from panelworks.sides import side_of


def paving(loop):
    """Rectangles, no two with a spot in common, that make the ground of a fair loop."""
    return ground_of(loop).rectangles()


def check_paving(loop, paper):
    """Let a paving by; refuse a paper that is none."""
    # What may not go into the next rectangle: all edges, and all rectangles ahead of it.
    taken = [box_of(edge) for edge in edges_of(loop)]
    if not isinstance(paper, tuple) or not all([is_rectangle(one) for one in paper]):
        raise BadPaper(None)
    for number, rectangle in enumerate(paper):
        if side_of(loop, middle_of(rectangle)) != "in":
            raise BadPaper(number)
        if any([goes_into(one, rectangle) for one in taken]):
            raise BadPaper(number)
        taken.append(bounds_of(rectangle))
    if total([size_of(rectangle) for rectangle in paper]) != loop_area(loop):
        raise BadPaper("area")
