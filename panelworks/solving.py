"""Where points come to stand by what is said of them."""

from panelworks.errors import OutOfPlace
from panelworks.fractions import NOUGHT, fraction, less, times, total
from panelworks.groups import groups_of
from panelworks.lines import Lines
from panelworks.sayings import is_place, names_of, need_sketch, plain_coordinates, plain_row, row_value, values_of
from panelworks.system import need_solvable


def solved(points, sayings):
    """The places nearest to the points at which all sayings hold."""
    return nearest(points, need_solvable(points, sayings))[0]


def linked_groups(points, sayings):
    """The coordinates in groups, two of them in one where rows lead from one to the other."""
    need_sketch(points, sayings)
    coordinates = plain_coordinates(points)
    numbers = {coordinate: number for number, coordinate in enumerate(coordinates)}
    links = []
    for saying in sayings:
        linked = [numbers[coordinate] for coordinate, _ in plain_row(coordinates, saying)[0]]
        links.extend([(linked[0], other) for other in linked[1:]])
    groups = groups_of(len(coordinates), links)
    return tuple([tuple([coordinates[number] for number in group]) for group in groups])


def moved_square(points, places):
    """The squares of all moves from the points to the places together."""
    need_sketch(points)
    if not are_places_of(points, places):
        raise OutOfPlace("no places of these points")
    ahead = values_of(points)
    behind = values_of(places)
    moves = [less(behind[coordinate], ahead[coordinate]) for coordinate in plain_coordinates(points)]
    return total([times(move, move) for move in moves])


def are_places_of(points, thing):
    """Whether it is a tuple of places of the names of these points, in their order."""
    if not isinstance(thing, tuple) or not all([is_place(one) for one in thing]):
        return False
    return names_of(thing) == names_of(points)


def nearest(points, system):
    """The nearest places by a system without a clash, and a multiplier for each saying."""
    multipliers = _multipliers(points, system)
    values = values_of(points)
    for row, multiplier in zip(system.rows, multipliers):
        for coordinate, factor in row[0]:
            values[coordinate] = less(values[coordinate], times((factor, 1), multiplier))
    places = [(name, values[(name, "x")], values[(name, "y")]) for name in names_of(points)]
    return tuple(places), tuple(multipliers)


def _multipliers(points, system):
    """How often each row is to be taken from the points, so that all sayings hold.

    The nearest places lie straight across all that the sayings leave open, so the moves are made of rows;
    of those that others bring with them none is needed.
    """
    rows = [system.rows[number] for number in system.chosen]
    values = values_of(points)
    lines = Lines(len(rows))
    for row in rows:
        over_it = less(row_value(values, row), (row[1], 1))
        line = [_shared(row, other) * over_it[1] for other in rows]
        line.append(over_it[0])
        lines.keep(lines.reduced(line))
    found = [NOUGHT] * len(system.rows)
    for pivot, line in lines.kept:
        found[system.chosen[pivot]] = fraction(line[len(rows)], line[pivot])
    return found


def _shared(one, other):
    """The sum of the products of the factors that two rows have of the same coordinates."""
    factors = dict(one[0])
    return sum([factors.get(coordinate, 0) * factor for coordinate, factor in other[0]])
