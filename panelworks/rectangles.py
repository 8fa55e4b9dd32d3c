"""Rectangles: (left, low, right, high), fractions, each with some ground."""

from panelworks.errors import OutOfPlace
from panelworks.fractions import NOUGHT, compared, is_fraction, is_under, less, mean, times


def is_rectangle(thing):
    """Whether it is a rectangle with some ground."""
    if not isinstance(thing, tuple) or len(thing) != 4 or not all([is_fraction(one) for one in thing]):
        return False
    return is_under(thing[0], thing[2]) and is_under(thing[1], thing[3])


def bounds_of(rectangle):
    """The least and the greatest x of a rectangle, and the least and the greatest y."""
    left, low, right, high = rectangle
    return ((left, right), (low, high))


def middle_of(rectangle):
    """The spot in the middle of a rectangle."""
    left, low, right, high = rectangle
    return (mean(left, right), mean(low, high))


def size_of(rectangle):
    """The area of a rectangle."""
    left, low, right, high = rectangle
    return times(less(right, left), less(high, low))


def goes_into(bounds, rectangle):
    """Whether what has these bounds, perhaps a mere line, goes inside of a rectangle, not along its sides alone."""
    for (low, high), (other_low, other_high) in zip(bounds, bounds_of(rectangle)):
        if not is_under(low, other_high) or not is_under(other_low, high):
            return False
    return True


def has_point(rectangle, x, y):
    """Whether a rectangle has a point, its sides belonging to it."""
    (left, right), (low, high) = bounds_of(rectangle)
    across = compared(left, x) < 1 and compared(x, right) < 1
    return across and compared(low, y) < 1 and compared(y, high) < 1


def need_point(wide, long, x, y):
    """Refuse what is no point of the rectangle from nought on that is so wide and so long."""
    if not is_fraction(x) or not is_fraction(y):
        raise OutOfPlace("no point")
    if not has_point((NOUGHT, NOUGHT, (wide, 1), (long, 1)), x, y):
        raise OutOfPlace("no point of this ground")
