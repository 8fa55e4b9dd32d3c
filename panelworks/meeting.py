"""Where loops touch themselves, and how two fair ones lie to each other."""

from panelworks.fractions import range_of
from panelworks.ground import Ground, ground_of
from panelworks.outlines import box_of, first_common, need_ring


def touching(loop):
    """The first two edges of a loop that touch without being neighbours, and the least spot there."""
    edges = need_ring(loop)
    found = first_common(edges)
    if found is None:
        return None
    return found + (_least_common(box_of(edges[found[0]]), box_of(edges[found[1]])),)


def relation(loop, other):
    """How the first one of two fair loops lies to the other one."""
    mine = ground_of(loop)
    others = ground_of(other)
    if mine == others:
        return "same"
    if mine.both(others) == Ground():
        return "apart"
    if mine.is_within(others):
        return "within"
    if others.is_within(mine):
        return "around"
    return "across"


def _least_common(box, other):
    """The least spot that two boxes have in common: along each axis where the later one begins."""
    return tuple([range_of([one[0], two[0]])[1] for one, two in zip(box, other)])
