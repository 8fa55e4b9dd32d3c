"""Fractions: pairs of a top and a bottom above 0, always in lowest terms."""

from math import gcd

from panelworks.errors import OutOfPlace
from panelworks.words import is_whole, number_of, signed_of

NOUGHT = (0, 1)


def is_fraction(thing, *, most=None):
    """Whether it is a fraction, with most one of numbers that aren't greater."""
    if not isinstance(thing, tuple) or len(thing) != 2:
        return False
    top, bottom = thing
    if not is_whole(top) or not is_whole(bottom) or bottom < 1:
        return False
    if gcd(top, bottom) != 1:
        return False
    if most is None:
        return True
    return is_whole(most) and abs(top) <= most and bottom <= most


def fraction(top, bottom=1):
    """The fraction that is top divided by bottom."""
    if not is_whole(top) or not is_whole(bottom):
        raise OutOfPlace("a fraction is made of whole numbers")
    if bottom == 0:
        raise OutOfPlace("no fraction has the bottom 0")
    return _lowest(top, bottom)


def plus(one, other):
    """Both together."""
    return _lowest(one[0] * other[1] + other[0] * one[1], one[1] * other[1])


def less(one, other):
    """What is left of one without the other."""
    return _lowest(one[0] * other[1] - other[0] * one[1], one[1] * other[1])


def times(one, other):
    """One as often as the other tells."""
    return _lowest(one[0] * other[0], one[1] * other[1])


def over(one, other):
    """One divided by the other."""
    if other[0] == 0:
        raise OutOfPlace("nothing is divided by nought")
    return _lowest(one[0] * other[1], one[1] * other[0])


def mean(one, other):
    """The middle between the two."""
    return _lowest(one[0] * other[1] + other[0] * one[1], 2 * one[1] * other[1])


def is_under(one, other):
    """Whether one is less than the other."""
    return one[0] * other[1] < other[0] * one[1]


def compared(one, other):
    """-1 where one is less than the other, 1 where it is greater, else 0."""
    if is_under(one, other):
        return -1
    if is_under(other, one):
        return 1
    return 0


def floor_of(one):
    """The greatest whole number that isn't above it."""
    return one[0] // one[1]


def total(some):
    """All of them together."""
    found = NOUGHT
    for one in some:
        found = plus(found, one)
    return found


def range_of(some):
    """The least and the greatest of them."""
    if len(some) == 0:
        raise OutOfPlace("none has a least and a greatest")
    least = greatest = some[0]
    for one in some:
        if is_under(one, least):
            least = one
        if is_under(greatest, one):
            greatest = one
    return (least, greatest)


def in_order(some, *, twice=False):
    """All of them, rising, each once, or, with twice, as often as it stands."""
    row = []
    for one in some:
        at = _first_not_under(row, one)
        if twice or at == len(row) or row[at] != one:
            row.insert(at, one)
    return tuple(row)


def middles(some):
    """The means of each two side by side."""
    return tuple([mean(one, other) for one, other in zip(some, some[1:])])


def fraction_text(one):
    """Its text, without a bottom where that is 1."""
    top, bottom = one
    if bottom == 1:
        return str(top)
    return f"{top}/{bottom}"


def read_fraction(word):
    """The fraction that a text tells, None of any other thing."""
    if not isinstance(word, str):
        return None
    head, slash, tail = word.partition("/")
    found = (signed_of(head), 1)
    if slash == "/":
        found = (signed_of(head), number_of(tail))
        # A bottom that is left out is 1, so it is never written.
        if found[1] == 1:
            return None
    if not is_fraction(found):
        return None
    return found


def _lowest(top, bottom):
    shared = gcd(top, bottom)
    if bottom < 0:
        shared = -shared
    return (top // shared, bottom // shared)


def _first_not_under(row, one):
    """The number of the first one in a rising row that isn't less."""
    low = 0
    high = len(row)
    while low < high:
        middle = (low + high) // 2
        if is_under(row[middle], one):
            low = middle + 1
        else:
            high = middle
    return low
