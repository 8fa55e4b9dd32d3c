"""Sections of bodies: what of them is higher than a level."""

from panelworks.bodies import rows_of_pieces
from panelworks.errors import OutOfPlace
from panelworks.fractions import less, total
from panelworks.groups import groups_of
from panelworks.rectangles import size_of
from panelworks.words import is_among


def section(block, features, places, level):
    """The area of what is higher than a level, its rim, how many parts it has and how many holes."""
    rows = rows_of_pieces(block, features, places)
    if not is_among(level, 0, block[2] - 1):
        raise OutOfPlace("no level of this block")
    high = [[piece[4] > level for piece in row] for row in rows]
    area = total([size_of(piece[:4]) for row in rows for piece in row if piece[4] > level])
    parts, holes = _parts_and_holes(high)
    return (area, _rim_of(rows, high), parts, holes)


def _rim_of(rows, high):
    """How long all sides of high pieces are together beyond which none lies."""
    lengths = []
    for number, row in enumerate(rows):
        for column, (left, low, right, top, _) in enumerate(row):
            if not high[number][column]:
                continue
            for by in (-1, 1):
                if not _is_high(high, number, column + by):
                    lengths.append(less(top, low))
                if not _is_high(high, number + by, column):
                    lengths.append(less(right, left))
    return total(lengths)


def _is_high(high, row, column):
    """Whether a piece is a high one; there is none outside of the block."""
    return 0 <= row < len(high) and 0 <= column < len(high[0]) and high[row][column]


def _parts_and_holes(high):
    """How many groups the high pieces make, and how many all others with what is outside, less one."""
    # A ring of pieces that are not high stands for what is outside.
    wide = len(high[0]) + 2
    cells = [False] * wide
    for row in high:
        cells.extend([False] + row + [False])
    cells.extend([False] * wide)
    groups = groups_of(len(cells), _links_between(cells, wide))
    parts = [group for group in groups if cells[group[0]]]
    return len(parts), len(groups) - len(parts) - 1


def _links_between(cells, wide):
    """The numbers of each two cells in touch: along a side, those that aren't high at a corner, too.

    Where one row ends and the next begins all cells are outside, so that it does no harm to link them.
    """
    links = []
    for number in range(len(cells)):
        beside = [number + 1, number + wide]
        if not cells[number]:
            beside.extend([number + wide - 1, number + wide + 1])
        for other in beside:
            if other < len(cells) and cells[other] == cells[number]:
                links.append((number, other))
    return links
