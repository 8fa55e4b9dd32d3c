"""Fields: a height for each unit square of a block's ground."""

from panelworks.errors import BadField, OutOfPlace
from panelworks.rectangles import has_point, need_point
from panelworks.words import MOST_HIGH, MOST_SIDE, is_among

# To the four cells in touch with one along a side.
SIDES = ((-1, 0), (0, -1), (0, 1), (1, 0))


def is_field(thing):
    """Whether it is a field."""
    try:
        need_field(thing)
    except BadField:
        return False
    return True


def need_field(field):
    """Refuse what is no field."""
    if not isinstance(field, tuple) or len(field) != 2:
        raise BadField(None)
    high, rows = field
    if not is_among(high, 1, MOST_HIGH):
        raise BadField("high")
    if not isinstance(rows, tuple) or not 1 <= len(rows) <= MOST_SIDE:
        raise BadField("rows")
    for number, row in enumerate(rows):
        if not isinstance(row, tuple) or not 1 <= len(row) <= MOST_SIDE or len(row) != len(rows[0]):
            raise BadField(number)
        if not all([is_among(height, 0, high) for height in row]):
            raise BadField(number)


def sides_of(field):
    """How wide and how long a field is."""
    need_field(field)
    return plain_sides(field)


def cell_of(field, cell):
    """The height of a cell."""
    need_field(field)
    need_cell(field, cell)
    return height_of(field, cell)


def height_on(field, x, y):
    """The greatest height of the cells that have a point, their borders too."""
    need_field(field)
    wide, long = plain_sides(field)
    need_point(wide, long, x, y)
    return max([height_of(field, cell) for cell in cells_of(field) if has_point(square_of(cell), x, y)])


def field_volume(field):
    """The heights of all cells together."""
    need_field(field)
    return sum([sum(row) for row in field[1]])


def crossed(target, least):
    """The cells in which two fields are unlike."""
    need_field(target)
    need_field(least)
    if plain_sides(target) != plain_sides(least):
        raise OutOfPlace("fields of unlike sides")
    return tuple([cell for cell in cells_of(target) if height_of(target, cell) != height_of(least, cell)])


def plain_sides(field):
    """How wide and how long what is known to be a field is."""
    return (len(field[1][0]), len(field[1]))


def cells_of(field):
    """All cells of a field, rising."""
    wide, long = plain_sides(field)
    return [(i, j) for i in range(wide) for j in range(long)]


def is_cell(field, thing):
    """Whether it is a cell of a field."""
    if not isinstance(thing, tuple) or len(thing) != 2:
        return False
    wide, long = plain_sides(field)
    return is_among(thing[0], 0, wide - 1) and is_among(thing[1], 0, long - 1)


def need_cell(field, cell):
    """Refuse what is no cell of a field."""
    if not is_cell(field, cell):
        raise OutOfPlace("no cell of this field")


def height_of(field, cell):
    """The height of what is known to be a cell of a field."""
    i, j = cell
    return field[1][j][i]


def heights_of(field):
    """The heights of a field by their cells."""
    return {cell: height_of(field, cell) for cell in cells_of(field)}


def is_nowhere_below(field, other):
    """Whether no cell of a field is lower than in another one of like sides."""
    return all([height_of(field, cell) >= height_of(other, cell) for cell in cells_of(field)])


def field_by(field, heights):
    """A field as high, wide and long as another one, of these heights by their cells."""
    wide, long = plain_sides(field)
    return (field[0], tuple([tuple([heights[(i, j)] for i in range(wide)]) for j in range(long)]))


def square_of(cell):
    """The rectangle of a cell."""
    i, j = cell
    return ((i, 1), (j, 1), (i + 1, 1), (j + 1, 1))


def beside(field, cell):
    """The cells in touch with a cell along a side, rising."""
    return [other for other in neighbours(cell) if is_cell(field, other)]


def neighbours(cell):
    """The four cells or places that are one from a cell or place along an axis, rising."""
    i, j = cell
    return [(i + by, j + up) for by, up in SIDES]
