"""How little time a fit way may take: prices of what is to go, and the bound that they show."""

from panelworks.errors import BadPaper
from panelworks.fields import cells_of, height_of
from panelworks.fractions import NOUGHT, floor_of, is_fraction, is_under, over, range_of, total
from panelworks.prices import cut_prices, down_prices
from panelworks.reach import reached, useless
from panelworks.steps import CUT_TIME, DOWN_TIME, TOOL_TIME, need_work
from panelworks.words import DEPTH, is_whole


def must_take(field, tools):
    """The tools without which another stock is reached."""
    others = useless(field, tools)
    return tuple([tool for tool in tools if tool not in others])


def units(field, tools):
    """What is to go, cell by cell and level by level, rising."""
    stock = reached(field, tools)
    return tuple([cell + (level,) for cell in cells_of(stock) for level in range(height_of(stock, cell), stock[0])])


def low(field, tools, *, depth=DEPTH):
    """The bound of the greatest like prices for all that is to go."""
    return _bound(field, tools, low_paper(field, tools, depth=depth))


def low_paper(field, tools, *, depth=DEPTH):
    """The greatest like prices for all that is to go."""
    need_work(field, tools, depth)
    some = units(field, tools)
    if len(some) == 0:
        return ()
    ones = {unit: (1, 1) for unit in some}
    _, most = range_of([price for _, price in down_prices(field, tools, ones)])
    price = over((DOWN_TIME, 1), most)
    # Where all cells always lie under a tool, none comes under it by a cut.
    _, most = range_of([NOUGHT] + [other for _, other in cut_prices(field, tools, ones, depth)])
    if most != NOUGHT:
        price, _ = range_of([price, over((CUT_TIME, 1), most)])
    return tuple([unit + (price,) for unit in some])


def check_low(field, tools, paper, *, depth=DEPTH):
    """The bound that prices show; refuse such as don't hold."""
    need_work(field, tools, depth)
    _need_rows(paper, units(field, tools))
    prices = {row[:3]: row[3] for row in paper}
    _need_no_more(down_prices(field, tools, prices), DOWN_TIME)
    _need_no_more(cut_prices(field, tools, prices, depth), CUT_TIME)
    return _bound(field, tools, paper)


def _need_rows(paper, some):
    """Refuse what is no tuple of rising rows, each with a price for one of some units."""
    if not isinstance(paper, tuple):
        raise BadPaper(None)
    known = {unit: True for unit in some}
    for number, row in enumerate(paper):
        if not _is_row(row, known) or (number > 0 and row[:3] <= paper[number - 1][:3]):
            raise BadPaper(("row", number))


def _is_row(row, known):
    if not isinstance(row, tuple) or len(row) != 4 or not all([is_whole(one) for one in row[:3]]):
        return False
    return row[:3] in known and is_fraction(row[3]) and is_under(NOUGHT, row[3])


def _need_no_more(prices, most):
    """Refuse by the first place at which prices come to more."""
    for place, price in prices:
        if is_under((most, 1), price):
            raise BadPaper(place)


def _bound(field, tools, paper):
    """The bound of prices that hold."""
    top, bottom = total([row[3] for row in paper])
    many = len(must_take(field, tools))
    if len(units(field, tools)) > 0:
        many = max(many, 1)
    return -floor_of((-top, bottom)) + TOOL_TIME * many
