"""Blocks, and the bodies that outlines with heights make of them."""

from panelworks.errors import BadBlock, BadFeature, BadOutline, NoPoint
from panelworks.fractions import NOUGHT, in_order, is_under, times, total
from panelworks.ground import ground_of
from panelworks.outlines import need_outline
from panelworks.rectangles import has_point, need_point, size_of
from panelworks.sayings import need_places
from panelworks.words import MOST_FEATURES, MOST_HIGH, MOST_SIDE, is_among


def is_block(thing):
    """Whether it is a block."""
    try:
        need_block(thing)
    except BadBlock:
        return False
    return True


def need_block(block):
    """Refuse what is no block."""
    if not isinstance(block, tuple) or len(block) != 3:
        raise BadBlock(None)
    for place, most in enumerate((MOST_SIDE, MOST_SIDE, MOST_HIGH)):
        if not is_among(block[place], 1, most):
            raise BadBlock(place)


def need_features(block, features, places):
    """Refuse what is no block, what are no places, and what are no features of these."""
    loops_of(block, features, places)


def lines_of(block, features, places):
    """The lines along each axis between which the pieces lie."""
    return _lines_by(block, loops_of(block, features, places))


def pieces_of(block, features, places):
    """The pieces of a body, row by row."""
    return tuple([piece for row in rows_of_pieces(block, features, places) for piece in row])


def height_at(block, features, places, x, y):
    """The greatest height of the pieces that have a point, their borders too."""
    pieces = pieces_of(block, features, places)
    need_point(block[0], block[1], x, y)
    return max([piece[4] for piece in pieces if has_point(piece[:4], x, y)])


def volume(block, features, places):
    """The areas of all pieces by their heights together."""
    pieces = pieces_of(block, features, places)
    return total([times(size_of(piece[:4]), (piece[4], 1)) for piece in pieces])


def loops_of(block, features, places):
    """The loop and the height of each feature; refused is what need_features refuses."""
    need_block(block)
    need_places(places)
    if not isinstance(features, tuple) or len(features) > MOST_FEATURES:
        raise BadFeature(None)
    found = []
    for number, feature in enumerate(features):
        if not isinstance(feature, tuple) or len(feature) != 2 or not is_among(feature[1], 0, block[2]):
            raise BadFeature(number)
        try:
            loop = need_outline(places, feature[0])
        except (BadOutline, NoPoint):
            raise BadFeature(number) from None
        found.append((loop, feature[1]))
    return found


def rows_of_pieces(block, features, places):
    """A list of the pieces for each two neighbouring lines along y."""
    loops = loops_of(block, features, places)
    across, up = _lines_by(block, loops)
    heights = _heights_between(block, loops, across, up)
    rows = []
    for number, (low, top) in enumerate(zip(up, up[1:])):
        row = []
        for height, left, right in zip(heights[number], across, across[1:]):
            row.append((left, low, right, top, height))
        rows.append(row)
    return rows


def _lines_by(block, loops):
    """The lines along each axis, by the loops of features."""
    found = []
    for axis in range(2):
        lines = [(number, 1) for number in range(block[axis] + 1)]
        for loop, _ in loops:
            # A corner that lies outside is held at the border, where there is a line.
            lines.extend([_held(spot[axis], block[axis]) for spot in loop])
        found.append(in_order(lines))
    return tuple(found)


def _heights_between(block, loops, across, up):
    """Row by row the heights between the lines: each feature puts its own over those of all ahead."""
    columns = {line: number for number, line in enumerate(across)}
    rows = {line: number for number, line in enumerate(up)}
    heights = [[block[2]] * (len(across) - 1) for _ in up[1:]]
    for loop, height in loops:
        for left, low, right, top in ground_of(loop).rectangles():
            first, last = [columns[_held(line, block[0])] for line in (left, right)]
            for number in range(rows[_held(low, block[1])], rows[_held(top, block[1])]):
                heights[number][first:last] = [height] * (last - first)
    return heights


def _held(one, most):
    """What is nearest to a number from nought to most."""
    if is_under(one, NOUGHT):
        return NOUGHT
    if is_under((most, 1), one):
        return (most, 1)
    return one
