"""The fields of a body, papers that show them, and their looker."""

from panelworks.bodies import loops_of, pieces_of
from panelworks.errors import BadPaper
from panelworks.fields import square_of
from panelworks.fractions import floor_of, is_under, total
from panelworks.outlines import box_of, plain_edges
from panelworks.rectangles import goes_into, is_rectangle, middle_of, size_of
from panelworks.runs import area_of, slabs_of
from panelworks.sides import edges_left


def fields_of(block, features, places):
    """The target field of a body, and its least field."""
    return fields_by_pieces(block, pieces_of(block, features, places))


def field_paper(block, features, places):
    """A paper that shows both fields: the pieces in each cell."""
    cells = _pieces_by_cells(block, pieces_of(block, features, places))
    return tuple([tuple([piece[:4] for piece in some]) for some in cells])


def check_field(block, features, places, paper):
    """Both fields that a paper shows; refuse one that doesn't come out."""
    outlines = [(plain_edges(loop), height) for loop, height in loops_of(block, features, places)]
    cells = [(i, j) for j in range(block[1]) for i in range(block[0])]
    if not isinstance(paper, tuple) or len(paper) != len(cells):
        raise BadPaper(None)
    bounds = [box_of(edge) for edges, _ in outlines for edge in edges]
    for number, cell in enumerate(cells):
        if not _are_tiles(paper[number], square_of(cell), bounds):
            raise BadPaper(number)
    return _fields_by(block, [[_height_of(block, outlines, tile) for tile in tiles] for tiles in paper])


def fields_by_pieces(block, pieces):
    """Both fields of the body of a block that has these pieces."""
    return _fields_by(block, [[piece[4] for piece in some] for some in _pieces_by_cells(block, pieces)])


def _pieces_by_cells(block, pieces):
    """The pieces within each cell, cell by cell as a field's rows have them."""
    cells = [[] for _ in range(block[0] * block[1])]
    for piece in pieces:
        cells[floor_of(piece[1]) * block[0] + floor_of(piece[0])].append(piece)
    return cells


def _fields_by(block, heights):
    """The fields of the greatest and of the least height of each cell."""
    wide, long, high = block
    fields = []
    for row in ([max(some) for some in heights], [min(some) for some in heights]):
        fields.append((high, tuple([tuple(row[j * wide:(j + 1) * wide]) for j in range(long)])))
    return tuple(fields)


def _are_tiles(thing, square, bounds):
    """Whether it is a tuple of tiles of a cell, given its square and the bounds of all edges."""
    if not isinstance(thing, tuple) or not all([_is_tile(one, square) for one in thing]):
        return False
    near = [one for one in bounds if goes_into(one, square)]
    if any([goes_into(one, tile) for tile in thing for one in near]):
        return False
    # Where two share ground, all of them together have less than their areas come to.
    return total([size_of(tile) for tile in thing]) == (1, 1) and area_of(slabs_of(thing)) == (1, 1)


def _is_tile(thing, square):
    """Whether it is a rectangle within a cell."""
    if not is_rectangle(thing):
        return False
    left, low, right, high = square
    if is_under(thing[0], left) or is_under(thing[1], low):
        return False
    return not is_under(right, thing[2]) and not is_under(high, thing[3])


def _height_of(block, outlines, tile):
    """The height at the middle of a tile: that of the last outline that has it within."""
    spot = middle_of(tile)
    found = block[2]
    for edges, height in outlines:
        if len(edges_left(edges, spot)) % 2 == 1:
            found = height
    return found
