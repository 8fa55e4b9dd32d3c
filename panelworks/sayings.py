"""Points, what is said of them, and the rows of numbers by which a saying is looked at."""

from panelworks.errors import BadSketch, OutOfPlace
from panelworks.forms import are_of, word_of
from panelworks.fractions import is_fraction, times, total
from panelworks.words import MOST_NUMBER, MOST_PLACED, MOST_POINTS, MOST_RATIO, MOST_SAYINGS, MOST_UNDER
from panelworks.words import is_among, is_name

AXES = ("x", "y")

# What stands behind the word of each sort of saying, one thing after the other.
SAYING_FORMS = {
    "at": ("point", "axis", "number"),
    "level": ("point", "point", "axis"),
    "apart": ("point", "point", "axis", "number"),
    "middle": ("point", "point", "point", "axis"),
    "as": ("point", "point", "axis", "point", "point", "axis", "ratio", "ratio"),
}


def need_sketch(points, sayings=()):
    """Refuse what are no points, or no sayings about them."""
    _need_named(points, True)
    names = names_of(points)
    if not isinstance(sayings, tuple) or len(sayings) > MOST_SAYINGS:
        raise BadSketch("sayings", None)
    for number, saying in enumerate(sayings):
        if not is_saying(names, saying):
            raise BadSketch("sayings", number)


def need_places(places):
    """Refuse what are no places."""
    _need_named(places, False)


def coordinates_of(points):
    """The coordinates of points, in order."""
    need_sketch(points)
    return plain_coordinates(points)


def row_of(points, saying):
    """The row of a saying about these points."""
    need_sketch(points)
    need_saying(points, saying)
    return plain_row(plain_coordinates(points), saying)


def saying_holds(places, saying):
    """Whether a saying about the points that stand at these places holds there."""
    need_places(places)
    need_saying(places, saying)
    return row_holds(values_of(places), plain_row(plain_coordinates(places), saying))


def need_saying(places, saying):
    """Refuse what is no saying about the points that stand at these places."""
    if not is_saying(names_of(places), saying):
        raise OutOfPlace("no saying of these points")


def is_saying(names, thing):
    """Whether it is a saying about points of these names."""
    return has_saying_form(thing) and all([name in names for name in names_in(thing)])


def has_saying_form(thing):
    """Whether it is a saying by its form, about points of whatever names."""
    word = word_of(thing)
    return word in SAYING_FORMS and are_of(SAYING_FORMS[word], thing[1:], _fits)


def names_in(saying):
    """The names of points in a saying, as they stand in it."""
    return [part for kind, part in zip(SAYING_FORMS[saying[0]], saying[1:]) if kind == "point"]


def is_place(thing):
    """Whether it is a name with two fractions."""
    if not isinstance(thing, tuple) or len(thing) != 3:
        return False
    return is_name(thing[0]) and is_fraction(thing[1]) and is_fraction(thing[2])


def is_close(one):
    """Whether a fraction is one that a point may have."""
    return abs(one[0]) <= MOST_PLACED and one[1] <= MOST_UNDER


def is_axis(thing):
    """Whether it is one of the two axes."""
    return isinstance(thing, str) and thing in AXES


def names_of(places):
    """The names of points or places, in order."""
    return [place[0] for place in places]


def plain_coordinates(places):
    """The coordinates of what are known to be points or places, in order."""
    return [(name, axis) for name in names_of(places) for axis in AXES]


def values_of(places):
    """What each coordinate is at these places."""
    values = {}
    for name, x, y in places:
        values[(name, "x")] = x
        values[(name, "y")] = y
    return values


def plain_row(coordinates, saying):
    """The row of what is known to be a saying of points with these coordinates."""
    shares, number = _shares(saying)
    factors = {}
    for coordinate, factor in shares:
        factors[coordinate] = factors.get(coordinate, 0) + factor
    terms = [(one, factors[one]) for one in coordinates if factors.get(one, 0) != 0]
    return (tuple(terms), number)


def row_value(values, row):
    """What the terms of a row come to together."""
    return total([times((factor, 1), values[coordinate]) for coordinate, factor in row[0]])


def row_holds(values, row):
    """Whether the terms of a row come to its number."""
    return row_value(values, row) == (row[1], 1)


def _need_named(places, close):
    """Refuse what isn't a tuple of so many unlike names with places, close ones where they are points."""
    if not isinstance(places, tuple) or len(places) > MOST_POINTS:
        raise BadSketch("points", None)
    names = []
    for number, place in enumerate(places):
        if not is_place(place) or place[0] in names:
            raise BadSketch("points", number)
        if close and not (is_close(place[1]) and is_close(place[2])):
            raise BadSketch("points", number)
        names.append(place[0])


def _fits(kind, part):
    """Whether a part of a saying is of the kind that is due there."""
    if kind == "point":
        return is_name(part)
    if kind == "axis":
        return is_axis(part)
    if kind == "number":
        return is_among(part, -MOST_NUMBER, MOST_NUMBER)
    return is_among(part, 1, MOST_RATIO)


def _shares(saying):
    """The factor of a coordinate for each time that it is named, and the number."""
    word = saying[0]
    if word == "at":
        _, name, axis, number = saying
        return [((name, axis), 1)], number
    if word == "middle":
        _, one, middle, other, axis = saying
        return [((middle, axis), 2), ((one, axis), -1), ((other, axis), -1)], 0
    if word == "as":
        _, one, other, axis, third, fourth, axis2, up, down = saying
        near = [((other, axis), down), ((one, axis), -down)]
        return near + [((fourth, axis2), -up), ((third, axis2), up)], 0
    one, other, axis = saying[1:4]
    shares = [((other, axis), 1), ((one, axis), -1)]
    if word == "apart":
        return shares, saying[4]
    return shares, 0
