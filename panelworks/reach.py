"""What tools reach of a field, what they leave, and which of them are of use."""

from itertools import combinations

from panelworks.fields import cells_of, field_by, height_of, heights_of, need_field
from panelworks.seats import seats_of
from panelworks.tools import need_tools, solid


def reached(field, tools):
    """The least stock of all that the tools may leave."""
    return steady(field, tools)[-1]


def steady(field, tools):
    """The stocks of all rounds, from the solid one to the first that a round leaves as it is."""
    need_field(field)
    need_tools(tools)
    seats = seats_of(field, tools)
    stocks = [solid(field)]
    following = after_round(field, seats, stocks[-1])
    while following != stocks[-1]:
        stocks.append(following)
        following = after_round(field, seats, stocks[-1])
    return stocks


def left(field, tools):
    """The cells that the tools leave above their targets, with these and what is reached."""
    stock = reached(field, tools)
    found = []
    for cell in cells_of(field):
        target = height_of(field, cell)
        height = height_of(stock, cell)
        if height > target:
            found.append((cell, target, height))
    return tuple(found)


def useless(field, tools):
    """The tools without which the others reach as much."""
    whole = reached(field, tools)
    found = []
    for number, tool in enumerate(tools):
        if reached(field, tools[:number] + tools[number + 1:]) == whole:
            found.append(tool)
    return tuple(found)


def fewest(field, tools):
    """The first of the fewest tools that reach as much as all."""
    whole = reached(field, tools)
    row = list(tools)
    for many in range(len(row)):
        for some in combinations(row, many):
            if reached(field, some) == whole:
                return some
    return tools


def after_round(field, seats, stock):
    """What all tools at all places leave of a stock, each as low as it may stand by this stock."""
    ahead = heights_of(stock)
    behind = heights_of(stock)
    for seat in seats:
        height = seat.lowest_by(ahead)
        for cell in seat.under:
            behind[cell] = min(behind[cell], height)
    return field_by(field, behind)
