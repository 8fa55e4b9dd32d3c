"""The rows of sayings in a form from which all that is asked of them can be read."""

from panelworks.errors import Clash
from panelworks.fractions import NOUGHT, fraction
from panelworks.lines import Lines
from panelworks.sayings import AXES, need_sketch, plain_coordinates, plain_row


class System:
    """The rows of the sayings of a sketch, up to the first one with which those ahead clash.

    A line has the factors of the coordinates, the number, and how often each saying is in it, behind all
    of them one that is looked at beside them. As lines are only added up and stretched as wholes, the
    first columns always are the rows of the sayings as often as the last ones tell.
    """

    def __init__(self, points, sayings):
        self.coordinates = plain_coordinates(points)
        self.rows = [plain_row(self.coordinates, saying) for saying in sayings]
        self.lines = Lines(len(self.coordinates))
        # The numbers of the sayings that those ahead don't bring with them.
        self.chosen = []
        self.clash = None
        self.clash_line = None
        for number, row in enumerate(self.rows):
            line = self.line_of(row, number)
            if self.lines.keep(line):
                self.chosen.append(number)
            elif self.number_in(line) != 0:
                self.clash = number
                self.clash_line = line
                break

    def line_of(self, row, number):
        """The reduced line of a row that is the saying of that number, the last one beside all others."""
        factors = dict(row[0])
        line = [factors.get(coordinate, 0) for coordinate in self.coordinates]
        line.append(row[1])
        line.extend([0] * (len(self.rows) + 1))
        line[len(self.coordinates) + 1 + number] = 1
        return self.lines.reduced(line)

    def line_beside(self, saying):
        """The reduced line of a saying that is looked at beside all others."""
        return self.line_of(plain_row(self.coordinates, saying), len(self.rows))

    def word_of(self, line):
        """What the reduced line of a saying beside all others tells of it."""
        if self.lines.first_of(line) is not None:
            return "free"
        if self.number_in(line) == 0:
            return "follows"
        return "clashes"

    def motion(self, column):
        """The motion with 1 at a column that is no pivot, and 0 at all others that are none."""
        values = [NOUGHT] * len(self.coordinates)
        values[column] = (1, 1)
        for pivot, line in self.lines.kept:
            values[pivot] = fraction(-line[column], line[pivot])
        rows = []
        for number in range(0, len(values), len(AXES)):
            rows.append((self.coordinates[number][0], values[number], values[number + 1]))
        return tuple(rows)

    def number_in(self, line):
        """The number of a line."""
        return line[len(self.coordinates)]

    def multipliers(self, line, many, whole):
        """How often the first sayings, so many, are in a line, each divided by a whole number."""
        start = len(self.coordinates) + 1
        return tuple([fraction(one, whole) for one in line[start:start + many]])


def need_solvable(points, sayings):
    """The system of a sketch; refuse what is none, and sayings that clash."""
    need_sketch(points, sayings)
    system = System(points, sayings)
    if system.clash is not None:
        raise Clash(system.clash)
    return system
