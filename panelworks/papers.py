"""What the lookers at papers about sketches have in common: forms, sums and motions."""

from panelworks.errors import BadPaper
from panelworks.fractions import NOUGHT, is_fraction, plus, times
from panelworks.sayings import is_place


def need_parts(paper, many):
    """Refuse what is no tuple of so many parts."""
    if not isinstance(paper, tuple) or len(paper) != many:
        raise BadPaper(None)


def need_tuple(part):
    """Refuse a part that is no tuple."""
    if not isinstance(part, tuple):
        raise BadPaper(None)


def need_multipliers(part, many):
    """Refuse a tuple that isn't of so many fractions."""
    place = first_unlike([is_fraction(one) for one in part], many)
    if place is not None:
        raise BadPaper(("multipliers", place))


def need_stands(part, points, word):
    """Refuse a tuple that doesn't tell two fractions for each point; word is what it is called."""
    place = first_unlike(stands_right(part, points), len(points))
    if place is not None:
        raise BadPaper((word, place))


def are_multipliers(thing, many):
    """Whether it is a tuple of so many fractions."""
    return isinstance(thing, tuple) and first_unlike([is_fraction(one) for one in thing], many) is None


def is_motion(thing, points):
    """Whether it is a tuple that tells two fractions for each point."""
    return isinstance(thing, tuple) and first_unlike(stands_right(thing, points), len(points)) is None


def stands_right(part, points):
    """Of each thing in a tuple whether it tells two fractions for the point of its number."""
    right = []
    for number, thing in enumerate(part):
        right.append(number < len(points) and is_place(thing) and thing[0] == points[number][0])
    return right


def first_unlike(right, many):
    """The number of the first that isn't right, that lacks, or is one too many; None without one."""
    for number, one in enumerate(right):
        if number == many or not one:
            return number
    if len(right) < many:
        return len(right)
    return None


def need_holding(holding):
    """Refuse by the number of the first saying that doesn't hold."""
    for number, one in enumerate(holding):
        if not one:
            raise BadPaper(("saying", number))


def row_sum(rows, multipliers):
    """All rows as often as the multipliers tell: what comes of each coordinate, and the number."""
    factors = {}
    number = NOUGHT
    for row, multiplier in zip(rows, multipliers):
        for coordinate, factor in row[0]:
            more = times((factor, 1), multiplier)
            factors[coordinate] = plus(factors.get(coordinate, NOUGHT), more)
        number = plus(number, times((row[1], 1), multiplier))
    return factors, number


def first_other(coordinates, factors, wanted):
    """The number of the first coordinate of which another factor comes than wanted, None without one.

    One that isn't named in either of the two dicts has nought there.
    """
    for number, coordinate in enumerate(coordinates):
        if factors.get(coordinate, NOUGHT) != wanted.get(coordinate, NOUGHT):
            return number
    return None


def terms_of(row):
    """The factors of a row by their coordinates, as fractions."""
    return {coordinate: (factor, 1) for coordinate, factor in row[0]}
