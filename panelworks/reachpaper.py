"""Papers that show what tools reach, and their looker."""

from panelworks.errors import BadPaper
from panelworks.fields import cells_of, field_by, height_of, heights_of, is_cell, need_field, plain_sides
from panelworks.seats import seats_of, stands_to_reach
from panelworks.tools import first_in_way, is_place_of, is_tool, need_tools, plain_places_over, plain_ring
from panelworks.tools import plain_under, solid
from panelworks.words import is_among


def reach_paper(field, tools):
    """A paper that shows what the tools reach."""
    need_field(field)
    need_tools(tools)
    stands = stands_to_reach(seats_of(field, tools), heights_of(solid(field)))
    stock = solid(field)
    for stand in stands:
        stock = _stock_behind(stock, stand)
    whys = []
    for cell in _cells_left(field, stock):
        rows = []
        for tool, place in _seats_over(tools, cell):
            rows.append((tool, place, _first_forbidding(field, stock, tool, place, cell)))
        whys.append((cell, tuple(rows)))
    return (tuple(stands), tuple(whys))


def check_reach(field, tools, paper):
    """The field that a paper shows; refuse one that doesn't come out."""
    need_field(field)
    need_tools(tools)
    if not isinstance(paper, tuple) or len(paper) != 2 or not all([isinstance(part, tuple) for part in paper]):
        raise BadPaper(None)
    stands, whys = paper
    stock = solid(field)
    for number, stand in enumerate(stands):
        if not _may_be(field, tools, stock, stand):
            raise BadPaper(("stand", number))
        stock = _stock_behind(stock, stand)
    cells = _cells_left(field, stock)
    for number, why in enumerate(whys):
        if number >= len(cells) or not _is_why(field, tools, stock, cells[number], why):
            raise BadPaper(("why", number))
    if len(whys) < len(cells):
        raise BadPaper(("why", len(whys)))
    return stock


def _stock_behind(stock, stand):
    """What a stand leaves of a stock."""
    tool, place, height = stand
    heights = heights_of(stock)
    for cell in plain_under(plain_sides(stock), tool, place):
        heights[cell] = min(heights[cell], height)
    return field_by(stock, heights)


def _cells_left(field, stock):
    """The cells that stand above their targets, rising."""
    return [cell for cell in cells_of(field) if height_of(stock, cell) > height_of(field, cell)]


def _seats_over(tools, cell):
    """Each tool, in its order, with each of its places over a cell, rising."""
    return [(tool, place) for tool in tools for place in plain_places_over(tool, cell)]


def _may_be(field, tools, stock, stand):
    """Whether it is a stand of one of the tools that may be done by a stock."""
    if not isinstance(stand, tuple) or len(stand) != 3:
        return False
    tool, place, height = stand
    if not is_tool(tool) or tool not in tools or not is_place_of(plain_sides(field), tool, place):
        return False
    return is_among(height, 0, field[0]) and first_in_way(field, stock, tool, place, height) is None


def _is_why(field, tools, stock, cell, why):
    """Whether it tells, for each tool over a cell, a cell that forbids it to come lower."""
    if not isinstance(why, tuple) or len(why) != 2 or not is_cell(field, why[0]) or why[0] != cell:
        return False
    seats = _seats_over(tools, cell)
    rows = why[1]
    if not isinstance(rows, tuple) or len(rows) != len(seats):
        return False
    for row, (tool, place) in zip(rows, seats):
        if not isinstance(row, tuple) or len(row) != 3 or not is_tool(row[0]):
            return False
        if not is_place_of(plain_sides(field), tool, row[1]) or row[:2] != (tool, place):
            return False
        if not is_cell(field, row[2]) or not _forbids(field, stock, row, cell):
            return False
    return True


def _first_forbidding(field, stock, tool, place, cell):
    """The first cell, those under a tool ahead of its ring, that forbids it to take from a cell, None without one."""
    sides = plain_sides(field)
    for other in plain_under(sides, tool, place) + plain_ring(sides, tool, place):
        if _forbids(field, stock, (tool, place, other), cell):
            return other
    return None


def _forbids(field, stock, row, cell):
    """Whether the last of a tool, a place and another cell forbids that tool to take from a cell there."""
    tool, place, other = row
    height = height_of(stock, cell)
    if other in plain_under(plain_sides(field), tool, place):
        return height_of(field, other) >= height
    if other in plain_ring(plain_sides(field), tool, place):
        return height_of(stock, other) >= height + tool[1]
    return False
