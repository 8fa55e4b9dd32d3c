"""What the sayings of a sketch leave open."""

from panelworks.errors import OutOfPlace
from panelworks.fractions import fraction
from panelworks.sayings import need_saying
from panelworks.system import need_solvable


def word_beside(points, sayings, saying):
    """Whether a saying follows from the sayings, clashes with them, or is free."""
    system = need_solvable(points, sayings)
    need_saying(points, saying)
    return system.word_of(system.line_beside(saying))


def fixed_at(points, sayings, name, axis):
    """What a coordinate is wherever all sayings hold, None where it isn't one fraction."""
    system = need_solvable(points, sayings)
    if (name, axis) not in system.coordinates:
        raise OutOfPlace("no coordinate of these points")
    column = system.coordinates.index((name, axis))
    line = system.lines.by_pivot().get(column)
    if line is None:
        return None
    if any([line[other] != 0 for other in range(len(system.coordinates)) if other != column]):
        return None
    return fraction(system.number_in(line), line[column])


def free_ways(points, sayings):
    """How many motions the sayings leave, none the sum of others."""
    system = need_solvable(points, sayings)
    return len(system.coordinates) - len(system.chosen)
