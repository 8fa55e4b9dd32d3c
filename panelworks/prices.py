"""What prices come to under tools at their places, and under those to which a cut comes."""

from panelworks.fields import cells_of, neighbours, plain_sides
from panelworks.fractions import NOUGHT, total
from panelworks.tools import by_size, is_place_of, plain_places, plain_under


def down_prices(field, tools, prices):
    """What the prices of a level under each tool at each place come to, with the place that a paper tells of it.

    Prices are a dict by units; one that isn't in it has none.
    """
    sides = plain_sides(field)
    found = []
    for tool in by_size(tools):
        for place in plain_places(sides, tool):
            under = plain_under(sides, tool, place)
            for level in range(field[0]):
                found.append((("down", tool, place, level), _at_level(prices, under, level)))
    return found


def cut_prices(field, tools, prices, depth):
    """What those from each level on come to that come under each tool by a cut of one cell, likewise."""
    sides = plain_sides(field)
    stacks = _stacks(field, prices, depth)
    found = []
    for tool in by_size(tools):
        for place in plain_places(sides, tool):
            for other in neighbours(place):
                if is_place_of(sides, tool, other):
                    more = _come_under(sides, tool, place, other)
                    for level in range(field[0]):
                        found.append((("cut", tool, place, other, level), _at_level(stacks, more, level)))
    return found


def _at_level(prices, cells, level):
    return total([prices.get(cell + (level,), NOUGHT) for cell in cells])


def _stacks(field, prices, depth):
    """What the prices of each cell from each level on come to, of so many levels one above the other."""
    stacks = {}
    for cell in cells_of(field):
        for level in range(field[0]):
            stacks[cell + (level,)] = total([prices.get(cell + (level + by,), NOUGHT) for by in range(depth)])
    return stacks


def _come_under(sides, tool, place, other):
    """The cells under a tool at another place that aren't under it at the first one."""
    under = plain_under(sides, tool, place)
    return [cell for cell in plain_under(sides, tool, other) if cell not in under]
