"""Lines of whole numbers that are stretched and added up till each has a column of its own."""

from math import gcd


class Lines:
    """Lines each of which has a pivot, a column in which no other one has anything but 0.

    Pivots are among the first columns, width of them; what stands behind these goes along.
    """

    def __init__(self, width):
        self.width = width
        self.kept = []

    def reduced(self, line):
        """The line stretched, and without anything in the pivots of those that are kept."""
        for pivot, other in self.kept:
            line = cleared(line, other, pivot)
        return line

    def keep(self, line):
        """Keep a reduced line; True, or False of one that has nothing in the first columns."""
        pivot = self.first_of(line)
        if pivot is None:
            return False
        kept = [(place, cleared(other, line, pivot)) for place, other in self.kept]
        kept.append((pivot, line))
        self.kept = kept
        return True

    def first_of(self, line):
        """The first of the first columns in which a line has anything, None without one."""
        for column in range(self.width):
            if line[column] != 0:
                return column
        return None

    def by_pivot(self):
        """The lines by their pivots."""
        return {pivot: line for pivot, line in self.kept}


def cleared(line, other, column):
    """The line stretched, and less so much of the other one that it has 0 in the column."""
    if line[column] == 0:
        return line
    shared = gcd(line[column], other[column])
    up = other[column] // shared
    down = line[column] // shared
    return _without_divisor([up * one - down * two for one, two in zip(line, other)])


def _without_divisor(line):
    """The line divided by all that divides each of its numbers, so that these stay small."""
    shared = 0
    for one in line:
        shared = gcd(shared, one)
    if shared < 2:
        return line
    return [one // shared for one in line]
