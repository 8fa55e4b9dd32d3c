"""Sayings that clash, and papers that show it."""

from panelworks.errors import BadPaper
from panelworks.papers import first_other, need_holding, need_multipliers, need_parts, need_stands, need_tuple
from panelworks.papers import row_sum
from panelworks.sayings import need_sketch, plain_coordinates, plain_row, row_holds, values_of
from panelworks.solving import nearest
from panelworks.system import System
from panelworks.words import is_among


def first_clash(points, sayings):
    """The number of the first saying with which those ahead clash, None without one."""
    need_sketch(points, sayings)
    return System(points, sayings).clash


def clash_paper(points, sayings):
    """A paper that shows the first clash, None without one."""
    need_sketch(points, sayings)
    system = System(points, sayings)
    number = system.clash
    if number is None:
        return None
    line = system.clash_line
    multipliers = system.multipliers(line, number + 1, system.number_in(line))
    places, _ = nearest(points, System(points, sayings[:number]))
    return (number, multipliers, places)


def check_clash(points, sayings, paper):
    """The number of the first clash that a paper shows; refuse one that doesn't come out."""
    need_sketch(points, sayings)
    need_parts(paper, 3)
    number, multipliers, places = paper
    need_tuple(multipliers)
    need_tuple(places)
    if not is_among(number, 0, len(sayings) - 1):
        raise BadPaper(None)
    need_multipliers(multipliers, number + 1)
    need_stands(places, points, "places")
    coordinates = plain_coordinates(points)
    rows = [plain_row(coordinates, saying) for saying in sayings[:number + 1]]
    values = values_of(places)
    need_holding([row_holds(values, row) for row in rows[:number]])
    factors, told = row_sum(rows, multipliers)
    wrong = first_other(coordinates, factors, {})
    if wrong is not None:
        raise BadPaper(("sum", wrong))
    if told != (1, 1):
        raise BadPaper(("sum", len(coordinates)))
    return number
