"""Tools, the cells under them and round them, and how low they may stand."""

from panelworks.errors import BadField, BadTools, OutOfPlace
from panelworks.fields import height_of, need_cell, need_field, plain_sides
from panelworks.words import MOST_LENGTH, MOST_TOOL, MOST_TOOLS, is_among


def need_tools(tools):
    """Refuse what are no tools."""
    if not isinstance(tools, tuple) or len(tools) > MOST_TOOLS:
        raise BadTools(None)
    for number, tool in enumerate(tools):
        if not is_tool(tool) or tool in tools[:number]:
            raise BadTools(number)


def cells_under(field, tool, place):
    """The cells under a tool at a place, rising."""
    _need_seat(field, tool, place)
    return plain_under(plain_sides(field), tool, place)


def ring_of(field, tool, place):
    """The cells round those under a tool at a place, rising."""
    _need_seat(field, tool, place)
    return plain_ring(plain_sides(field), tool, place)


def places_of(field, tool):
    """All places of a tool, rising."""
    need_field(field)
    need_tool(tool)
    return plain_places(plain_sides(field), tool)


def places_over(field, tool, cell):
    """The places of a tool with a cell under it, rising."""
    need_field(field)
    need_tool(tool)
    need_cell(field, cell)
    return plain_places_over(tool, cell)


def may_stand(field, stock, tool, place, height):
    """Whether a tool may stand at a place and a height."""
    need_stock(field, stock)
    _need_seat(field, tool, place)
    need_height(field, height)
    return first_in_way(field, stock, tool, place, height) is None


def lowest(field, stock, tool, place):
    """The lowest height at which a tool may stand at a place."""
    need_stock(field, stock)
    _need_seat(field, tool, place)
    sides = plain_sides(field)
    targets = [height_of(field, cell) for cell in plain_under(sides, tool, place)]
    around = [height_of(stock, cell) - tool[1] for cell in plain_ring(sides, tool, place)]
    return max([0] + targets + around)


def solid(field):
    """The stock with the full height everywhere."""
    need_field(field)
    high = field[0]
    return (high, tuple([tuple([high for _ in row]) for row in field[1]]))


def is_tool(thing):
    """Whether it is a tool."""
    if not isinstance(thing, tuple) or len(thing) != 2:
        return False
    return is_among(thing[0], 1, MOST_TOOL) and is_among(thing[1], 1, MOST_LENGTH)


def by_size(tools):
    """Tools with their sides falling, of like ones their lengths falling."""
    return sorted(tools, reverse=True)


def need_tool(tool):
    """Refuse what is no tool."""
    if not is_tool(tool):
        raise BadTools(None)


def need_stock(field, stock):
    """Refuse what is no field, and what is no stock of it."""
    need_field(field)
    need_field(stock)
    if stock[0] != field[0]:
        raise BadField("high")
    if plain_sides(stock) != plain_sides(field):
        raise BadField("rows")


def is_place_of(sides, tool, thing):
    """Whether it is a place of a tool on ground with such sides."""
    if not isinstance(thing, tuple) or len(thing) != 2:
        return False
    return all([is_among(at, 1 - tool[0], many - 1) for at, many in zip(thing, sides)])


def need_place(sides, tool, place):
    """Refuse what is no place of a tool on ground with such sides."""
    if not is_place_of(sides, tool, place):
        raise OutOfPlace("no place of this tool")


def need_height(field, height):
    """Refuse what is no height at which a tool may be."""
    if not is_among(height, 0, field[0]):
        raise OutOfPlace("no height of this field")


def plain_under(sides, tool, place):
    """The cells under a tool at what is known to be a place of it."""
    i, j = place
    return tuple(_cells_between(sides, place, (i + tool[0], j + tool[0])))


def plain_ring(sides, tool, place):
    """The cells round those under a tool at what is known to be a place of it."""
    i, j = place
    under = plain_under(sides, tool, place)
    around = _cells_between(sides, (i - 1, j - 1), (i + tool[0] + 1, j + tool[0] + 1))
    return tuple([cell for cell in around if cell not in under])


def plain_places(sides, tool):
    """All places of a tool on ground with such sides."""
    wide, long = sides
    return tuple([(i, j) for i in range(1 - tool[0], wide) for j in range(1 - tool[0], long)])


def plain_places_over(tool, cell):
    """The places of a tool with what is known to be a cell under it."""
    i, j = cell
    return tuple([(at, by) for at in range(i - tool[0] + 1, i + 1) for by in range(j - tool[0] + 1, j + 1)])


def first_in_way(field, stock, tool, place, height):
    """The first cell by which a tool may not stand, those under it ahead of its ring, None without one."""
    sides = plain_sides(field)
    for cell in plain_under(sides, tool, place):
        if height_of(field, cell) > height:
            return cell
    return first_of_ring(stock, tool, place, height)


def first_of_ring(stock, tool, place, height):
    """The first cell of the ring that stands too high for the holder, None without one."""
    for cell in plain_ring(plain_sides(stock), tool, place):
        if height_of(stock, cell) > height + tool[1]:
            return cell
    return None


def _need_seat(field, tool, place):
    need_field(field)
    need_tool(tool)
    need_place(plain_sides(field), tool, place)


def _cells_between(sides, first, last):
    """The cells of the ground from a first one to below a last one along both axes."""
    (left, low), (right, top) = first, last
    wide, long = sides
    return [(i, j) for i in range(max(left, 0), min(right, wide)) for j in range(max(low, 0), min(top, long))]
