"""Ground: all that some rectangles have, told in one way."""

from panelworks.errors import OutOfPlace
from panelworks.fractions import compared, fraction_text, in_order, is_under
from panelworks.outlines import box_of, need_loop, need_spot, plain_edges
from panelworks.rectangles import is_rectangle
from panelworks.runs import area_of, border_of, islands_of, joined_slabs, moved_slabs, neat_slabs, pairs_of
from panelworks.runs import rectangles_of, slabs_of

MOST_RECTANGLES = 40


class Ground:
    """All spots that some rectangles have; nothing that it is asked changes it."""

    def __init__(self, rectangles=()):
        if not isinstance(rectangles, tuple) or len(rectangles) > MOST_RECTANGLES:
            raise OutOfPlace("no tuple of so many rectangles")
        if not all([is_rectangle(one) for one in rectangles]):
            raise OutOfPlace("no rectangle")
        self._slabs = slabs_of(rectangles)

    def either(self, other):
        """The ground of what one of the two has."""
        return _joined(self, other, "either")

    def both(self, other):
        """The ground of what both have."""
        return _joined(self, other, "both")

    def less(self, other):
        """The ground of what it has and the other one hasn't."""
        return _joined(self, other, "less")

    def is_within(self, other):
        """Whether the other one has all that it has."""
        return self.breach(other) is None

    def breach(self, other):
        """The least spot that it has and the other one hasn't, None without one."""
        return _joined(self, other, "less").corner()

    def has(self, spot):
        """Whether it has a spot."""
        need_spot(spot)
        return any([_rectangle_has(one, spot) for one in self.rectangles()])

    def moved(self, by):
        """The ground of its spots, each so much further."""
        need_spot(by)
        return _ground_by(moved_slabs(self._slabs, by))

    def slabs(self):
        """Its slabs."""
        return self._slabs

    def rectangles(self):
        """A rectangle for each run, as the slabs have them."""
        return rectangles_of(self._slabs)

    def area(self):
        """The area of all slabs."""
        return area_of(self._slabs)

    def border(self):
        """How long all is that lies between what it has and what it hasn't."""
        return border_of(self._slabs)

    def corner(self):
        """The least spot that it has, None without one."""
        if len(self._slabs) == 0:
            return None
        left, _, runs = self._slabs[0]
        return (left, runs[0][0])

    def islands(self):
        """The grounds into which it falls, by their corners."""
        return [_ground_by(slabs) for slabs in islands_of(self._slabs)]

    def __eq__(self, other):
        return isinstance(other, Ground) and self._slabs == other._slabs

    def __len__(self):
        return len(rectangles_of(self._slabs))

    def __str__(self):
        return " ".join([_rectangle_text(one) for one in rectangles_of(self._slabs)])


def ground_of(loop):
    """The ground of a fair loop."""
    edges = plain_edges(need_loop(loop))
    lines = in_order([x for x, _ in loop])
    rows = []
    for left, right in zip(lines, lines[1:]):
        # By turns these heights lead into the loop and out of it.
        rows.append((left, right, pairs_of(_heights_from(edges, left))))
    return _ground_by(neat_slabs(rows))


def _ground_by(slabs):
    """The ground that has these slabs; they may be more than a ground is made of by rectangles."""
    made = Ground()
    made._slabs = slabs
    return made


def _joined(ground, other, word):
    if not isinstance(other, Ground):
        raise OutOfPlace("no ground")
    return _ground_by(joined_slabs(ground.slabs(), other.slabs(), word))


def _rectangle_has(rectangle, spot):
    left, low, right, high = rectangle
    across = compared(left, spot[0]) < 1 and is_under(spot[0], right)
    return across and compared(low, spot[1]) < 1 and is_under(spot[1], high)


def _heights_from(edges, left):
    """The heights, rising, of the level edges that lead from a line on to the right of it."""
    found = []
    for edge in edges:
        (low, high), up = box_of(edge)
        if edge[0] == "level" and compared(low, left) < 1 and is_under(left, high):
            found.append(up[0])
    return in_order(found)


def _rectangle_text(rectangle):
    left, low, right, high = [fraction_text(one) for one in rectangle]
    return f"[{left},{right})x[{low},{high})"
