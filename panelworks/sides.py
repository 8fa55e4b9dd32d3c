"""On which side of a fair loop a spot is, and papers that show it."""

from panelworks.errors import BadPaper
from panelworks.fractions import compared, is_under
from panelworks.outlines import box_of, need_loop, need_spot, plain_edges
from panelworks.words import is_whole


def side_of(loop, spot):
    """Whether a spot is in a fair loop, on its edge or out."""
    need_loop(loop)
    need_spot(spot)
    return _side_shown(plain_side_paper(plain_edges(loop), spot))


def side_paper(loop, spot):
    """A paper that shows on which side of a fair loop a spot is."""
    need_loop(loop)
    need_spot(spot)
    return plain_side_paper(plain_edges(loop), spot)


def check_side(loop, spot, paper):
    """The side that a paper shows; refuse one that doesn't come out."""
    need_loop(loop)
    need_spot(spot)
    _need_form(paper)
    edges = plain_edges(loop)
    found = first_edge_with(edges, spot)
    word, told = paper
    if word == "edge":
        if told != found:
            raise BadPaper(0)
        return "edge"
    if found is not None:
        raise BadPaper(0)
    _need_numbers(told, edges_left(edges, spot))
    return _side_shown(paper)


def plain_side_paper(edges, spot):
    """The paper by the edges of what is known to be a fair loop."""
    number = first_edge_with(edges, spot)
    if number is not None:
        return ("edge", number)
    return ("left", tuple(edges_left(edges, spot)))


def first_edge_with(edges, spot):
    """The number of the first edge that has the spot, None without one."""
    for number, edge in enumerate(edges):
        if all([_is_between(one, bounds) for one, bounds in zip(spot, box_of(edge))]):
            return number
    return None


def edges_left(edges, spot):
    """The numbers of the upright edges left of a spot, those with its height between their ends."""
    found = []
    for number, edge in enumerate(edges):
        across, (low, high) = box_of(edge)
        if edge[0] == "upright" and is_under(across[0], spot[0]):
            # Each edge goes up to below its upper end, so that no height is met by two side by side.
            if compared(low, spot[1]) < 1 and is_under(spot[1], high):
                found.append(number)
    return found


def _is_between(one, bounds):
    return compared(bounds[0], one) < 1 and compared(one, bounds[1]) < 1


def _side_shown(paper):
    word, told = paper
    if word == "edge":
        return "edge"
    if len(told) % 2 == 1:
        return "in"
    return "out"


def _need_form(paper):
    if not isinstance(paper, tuple) or len(paper) != 2:
        raise BadPaper(None)
    word, told = paper
    if word == "edge" and is_whole(told):
        return
    if word == "left" and isinstance(told, tuple) and all([is_whole(number) for number in told]):
        return
    raise BadPaper(None)


def _need_numbers(told, wanted):
    """Refuse numbers by the first that isn't a wanted one, or doesn't rise, then where some lack."""
    ahead = -1
    for place, number in enumerate(told):
        if number not in wanted or number <= ahead:
            raise BadPaper(place)
        ahead = number
    if len(told) < len(wanted):
        raise BadPaper(len(told))
