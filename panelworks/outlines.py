"""Loops of level and upright edges, and outlines whose corners are places."""

from panelworks.errors import BadOutline, NoPoint, OutOfPlace
from panelworks.fractions import compared, is_fraction, is_under, less, over, range_of, times, total
from panelworks.sayings import need_places
from panelworks.words import MOST_RING, is_name

LEAST_RING = 4


def need_loop(loop):
    """The loop itself; refuse what is no fair one."""
    touching = first_common(need_ring(loop))
    if touching is not None:
        raise BadOutline(touching[0])
    return loop


def is_fair(loop):
    """Whether it is a fair loop."""
    try:
        need_loop(loop)
    except BadOutline:
        return False
    return True


def loop_of(places, names):
    """The loop of the places of these names, fair or not."""
    need_places(places)
    if not are_corners(names) or not _may_be_ring(len(names)):
        raise BadOutline(None)
    spots = {name: (x, y) for name, x, y in places}
    for name in names:
        if name not in spots:
            raise NoPoint(name)
    return tuple([spots[name] for name in names])


def are_corners(thing):
    """Whether it is a tuple of four to twelve unlike names, perhaps of an odd number, of which no loop is made."""
    if not isinstance(thing, tuple) or not LEAST_RING <= len(thing) <= MOST_RING:
        return False
    return all([is_name(name) for name in thing]) and len(set(thing)) == len(thing)


def need_outline(places, names):
    """The loop of the places of these names; refuse names that are no outline."""
    return need_loop(loop_of(places, names))


def edges_of(loop):
    """The edges of a fair loop: of each its kind, and the spots from which and to which it goes."""
    return plain_edges(need_loop(loop))


def turns_of(loop):
    """How often a fair loop turns left at the end of an edge, and how often right."""
    edges = plain_edges(need_loop(loop))
    left = 0
    for edge, following in zip(edges, edges[1:] + edges[:1]):
        along, up = _direction(edge)
        then_along, then_up = _direction(following)
        if along * then_up > up * then_along:
            left += 1
    return (left, len(edges) - left)


def plain_loop(loop):
    """The loop of the same edges that begins with its least spot and turns left more."""
    need_loop(loop)
    first = 0
    for number, spot in enumerate(loop):
        if spot_is_under(spot, loop[first]):
            first = number
    turned = loop[first:] + loop[:first]
    # From the least spot one edge goes right and one goes up, and to the left of the first one is the inside.
    if turned[0][1] == turned[1][1]:
        return turned
    return turned[:1] + turned[:0:-1]


def loop_area(loop):
    """The area within a fair loop."""
    need_loop(loop)
    pairs = list(zip(loop, loop[1:] + loop[:1]))
    twice = total([less(times(one[0], other[1]), times(other[0], one[1])) for one, other in pairs])
    return over((abs(twice[0]), twice[1]), (2, 1))


def loop_length(loop):
    """How long the edges of a fair loop are together."""
    lengths = []
    for kind, start, end in plain_edges(need_loop(loop)):
        axis = axis_of(kind)
        least, greatest = range_of([start[axis], end[axis]])
        lengths.append(less(greatest, least))
    return total(lengths)


def is_spot(thing):
    """Whether it is a pair of fractions."""
    return isinstance(thing, tuple) and len(thing) == 2 and is_fraction(thing[0]) and is_fraction(thing[1])


def need_spot(spot):
    """Refuse what is no spot."""
    if not is_spot(spot):
        raise OutOfPlace("no spot")


def spot_is_under(one, other):
    """Whether a spot is less than another one, by x, then by y."""
    if one[0] == other[0]:
        return is_under(one[1], other[1])
    return is_under(one[0], other[0])


def axis_of(kind):
    """The number of the axis along which an edge of a kind goes."""
    if kind == "level":
        return 0
    return 1


def plain_edges(loop):
    """The edges of a tuple of spots; the kind is None of one that is neither level nor upright, or of no length."""
    return [(_kind_of(start, end), start, end) for start, end in zip(loop, loop[1:] + loop[:1])]


def need_ring(loop):
    """The edges of a loop, level and upright in turn, each of some length; refuse what has none such."""
    if not isinstance(loop, tuple) or not _may_be_ring(len(loop)):
        raise BadOutline(None)
    if not all([is_spot(spot) for spot in loop]):
        raise BadOutline(None)
    edges = plain_edges(loop)
    ahead = None
    for number, (kind, _, _) in enumerate(edges):
        if kind is None or kind == ahead:
            raise BadOutline(number)
        ahead = kind
    return edges


def first_common(edges):
    """The numbers of the first two edges that are no neighbours and have a spot in common, None without them."""
    boxes = [box_of(edge) for edge in edges]
    for number in range(len(edges)):
        for other in range(number + 1, len(edges)):
            if not are_neighbours(number, other, len(edges)) and have_common(boxes[number], boxes[other]):
                return (number, other)
    return None


def are_neighbours(one, other, many):
    """Whether two of so many edges are the same one, or side by side."""
    return (one - other) % many in (0, 1, many - 1)


def box_of(edge):
    """The least and the greatest x of an edge, and the least and the greatest y."""
    _, start, end = edge
    return (range_of([start[0], end[0]]), range_of([start[1], end[1]]))


def have_common(box, other):
    """Whether two boxes have a spot in common, their sides belonging to them."""
    for (low, high), (other_low, other_high) in zip(box, other):
        if is_under(high, other_low) or is_under(other_high, low):
            return False
    return True


def _may_be_ring(many):
    return LEAST_RING <= many <= MOST_RING and many % 2 == 0


def _kind_of(start, end):
    if start == end:
        return None
    if start[1] == end[1]:
        return "level"
    if start[0] == end[0]:
        return "upright"
    return None


def _direction(edge):
    """Where an edge goes: -1, 0 or 1 along each axis."""
    _, start, end = edge
    return compared(end[0], start[0]), compared(end[1], start[1])
