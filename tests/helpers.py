"""What the tests have in common: fractions of Python's own, and ways to look at sketches and loops by themselves."""

from fractions import Fraction
from functools import lru_cache
from math import gcd

# Things that are no fraction, no tuple of anything, no name and no number.
ODD_THINGS = (None, True, False, 1.5, "x", "", b"a", [], [1, 2], {}, (), (1,), ("a",), (None, None), object())


def whole(number):
    """A whole number as a fraction of the program."""
    return (number, 1)


def pair(number):
    """A Fraction as a fraction of the program."""
    number = Fraction(number)
    return (number.numerator, number.denominator)


def plain(one):
    """A fraction of the program as a Fraction."""
    return Fraction(one[0], one[1])


def point(name, x, y):
    return (name, pair(x), pair(y))


def refusal(case, error, call, *things, **named):
    """The error that a call raises, of just that class."""
    with case.assertRaises(error) as held:
        call(*things, **named)
    case.assertIs(type(held.exception), error)
    return held.exception


def off(saying, values):
    """By how much a saying doesn't hold where each coordinate has its value: 0 where it does."""
    word = saying[0]
    if word == "at":
        return values[saying[1], saying[2]] - saying[3]
    if word == "level":
        return values[saying[2], saying[3]] - values[saying[1], saying[3]]
    if word == "apart":
        return values[saying[2], saying[3]] - values[saying[1], saying[3]] - saying[4]
    if word == "middle":
        return 2 * values[saying[2], saying[4]] - values[saying[1], saying[4]] - values[saying[3], saying[4]]
    _, p, q, axis, r, s, axis2, a, b = saying
    return b * (values[q, axis] - values[p, axis]) - a * (values[s, axis2] - values[r, axis2])


def coordinates(points):
    return [(one[0], axis) for one in points for axis in "xy"]


def values_at(places):
    found = {}
    for name, x, y in places:
        found[name, "x"] = plain(x)
        found[name, "y"] = plain(y)
    return found


def row(points, saying):
    """The factors of a saying for each coordinate, found by trying, and its number."""
    names = coordinates(points)
    nought = {name: 0 for name in names}
    number = -off(saying, nought)
    return [off(saying, {**nought, name: 1}) + number for name in names], number


def rank(rows):
    """How many of the rows aren't sums of others."""
    rows = [[Fraction(one) for one in line] for line in rows]
    found = 0
    for column in range(len(rows[0]) if rows else 0):
        at = next((k for k in range(found, len(rows)) if rows[k][column]), None)
        if at is None:
            continue
        rows[found], rows[at] = rows[at], rows[found]
        for k in range(found + 1, len(rows)):
            by = rows[k][column] / rows[found][column]
            rows[k] = [one - by * other for one, other in zip(rows[k], rows[found])]
        found += 1
    return found


def clash_number(points, sayings):
    """The first saying with which those ahead clash, by ranks."""
    for many in range(1, len(sayings) + 1):
        rows = [row(points, saying) for saying in sayings[:many]]
        if rank([line for line, _ in rows]) != rank([line + [number] for line, number in rows]):
            return many - 1
    return None


def fraction_from(chance, top=30, bottom=6):
    return pair(Fraction(chance.randint(-top, top), chance.randint(1, bottom)))


def sketch_from(chance, many, sayings, numbers=5):
    """A sketch by chance: so many points, so many sayings."""
    names = chance.sample(["a", "b", "c", "d", "e", "f", "g", "h", "abcdefgh", "j", "zz", "l"], many)
    points = tuple((name, fraction_from(chance), fraction_from(chance)) for name in names)
    return points, tuple(saying_from(chance, names, numbers) for _ in range(sayings))


def saying_from(chance, names, numbers=5):
    word = chance.choice(["at", "level", "apart", "middle", "as"])
    p, q, r, s = (chance.choice(names) for _ in range(4))
    axis, axis2 = (chance.choice("xy") for _ in range(2))
    number = chance.randint(-numbers, numbers)
    ratio = chance.randint(1, 4), chance.randint(1, 4)
    return {
        "at": ("at", p, axis, number),
        "level": ("level", p, q, axis),
        "apart": ("apart", p, q, axis, number),
        "middle": ("middle", p, q, r, axis),
        "as": ("as", p, q, axis, r, s, axis2) + ratio,
    }[word]


def spots(*numbers):
    """A loop of numbers, fractions as texts: x, y, x, y and so on."""
    return tuple((pair(x), pair(y)) for x, y in zip(numbers[::2], numbers[1::2]))


def rising(chance, many):
    """So many rising fractions."""
    found = [Fraction(chance.randint(-6, 6), chance.randint(1, 3))]
    while len(found) < many:
        found.append(found[-1] + Fraction(chance.randint(1, 6), chance.randint(1, 4)))
    return [pair(one) for one in found]


def loop_from(chance, wide=4):
    """A fair loop by chance: (loop, cells, xs, ys), cells being those of a grid that lie within it."""
    xs, ys = rising(chance, wide + 1), rising(chance, wide + 1)
    return loop_on(chance, xs, ys) + (xs, ys)


def loop_on(chance, xs, ys):
    """A fair loop by chance whose corners lie on these lines: (loop, cells)."""
    while True:
        cells = _grown(chance, len(xs) - 1, len(ys) - 1)
        corners = _walked_round(cells)
        if corners is not None and len(corners) <= 12:
            break
    loop = tuple((xs[x], ys[y]) for x, y in corners)
    start = chance.randrange(len(loop))
    loop = loop[start:] + loop[:start]
    return (loop if chance.random() < 0.5 else loop[::-1]), cells


def _grown(chance, wide, long):
    cells = {(chance.randrange(wide), chance.randrange(long))}
    for _ in range(chance.randint(0, wide * long)):
        x, y = chance.choice(sorted(cells))
        step = chance.choice([(1, 0), (-1, 0), (0, 1), (0, -1)])
        found = (x + step[0], y + step[1])
        if 0 <= found[0] < wide and 0 <= found[1] < long:
            cells.add(found)
    return cells


def _walked_round(cells):
    """The corners of the one border of some cells, None where they have holes or meet at corners alone."""
    follows = {}
    for x, y in cells:
        for dx, dy, start, end in (
            (0, -1, (x, y), (x + 1, y)),
            (1, 0, (x + 1, y), (x + 1, y + 1)),
            (0, 1, (x + 1, y + 1), (x, y + 1)),
            (-1, 0, (x, y + 1), (x, y)),
        ):
            if (x + dx, y + dy) not in cells:
                if start in follows:
                    return None
                follows[start] = end
    first = min(follows)
    walked = [first]
    while follows[walked[-1]] != first:
        walked.append(follows[walked[-1]])
    if len(walked) != len(follows):
        return None
    return [spot for k, spot in enumerate(walked) if not _is_between(walked[k - 1], follows[spot])]


def _is_between(before, behind):
    return before[0] == behind[0] or before[1] == behind[1]


def lowest(top, bottom):
    shared = gcd(top, bottom)
    return (top // shared, bottom // shared)


NODES = ("a", "b", "c", "d", "e", "f", "g", "h", "i", "j", "k", "l")


class Body:
    """A body by chance, and what is known of it by itself: a grid of 12 places with outlines on it."""

    def __init__(self, chance, many=None, whole_ones=False):
        self.block = (chance.randint(1, 4), chance.randint(1, 4), chance.randint(1, 6))
        size = chance.choice([(4, 3), (3, 4), (6, 2), (2, 6)])
        self.xs = self._lines(chance, size[0], self.block[0], whole_ones)
        self.ys = self._lines(chance, size[1], self.block[1], whole_ones)
        names = list(NODES)
        chance.shuffle(names)
        nodes = [(pair(x), pair(y)) for x in self.xs for y in self.ys]
        self.places = tuple((name,) + node for name, node in zip(names, nodes))
        named = dict(zip(nodes, names))
        self.features = ()
        # Of each feature the rectangles that it covers, and its height; its corners.
        self.covers, self.corners = [], []
        for _ in range(chance.randint(0, 5) if many is None else many):
            loop, cells = loop_on(chance, [pair(x) for x in self.xs], [pair(y) for y in self.ys])
            height = chance.randint(0, self.block[2])
            self.features += ((tuple(named[one] for one in loop), height),)
            xs, ys = self.xs, self.ys
            self.covers.append(([(xs[x], ys[y], xs[x + 1], ys[y + 1]) for x, y in cells], height))
            self.corners += [(plain(x), plain(y)) for x, y in loop]

    def _lines(self, chance, many, most, whole_ones):
        bottoms = [1] if whole_ones else [1, 2, 3]
        found = set()
        while len(found) < many:
            bottom = chance.choice(bottoms)
            found.add(Fraction(chance.randint(-bottom - 1, (most + 1) * bottom + 1), bottom))
        return sorted(found)

    def things(self):
        return self.block, self.features, self.places

    def height_in(self, x, y):
        """The height at a point that lies on no edge of an outline; it may lie between two cells of one."""
        found = self.block[2]
        for rectangles, height in self.covers:
            if any(x0 <= x < x1 and y0 <= y < y1 for x0, y0, x1, y1 in rectangles):
                found = height
        return found

    def lines(self):
        found = []
        for axis in range(2):
            corners = {corner[axis] for corner in self.corners if 0 <= corner[axis] <= self.block[axis]}
            found.append(sorted(corners | {Fraction(k) for k in range(self.block[axis] + 1)}))
        return found

    def pieces(self):
        """All pieces, of Fractions, in their order."""
        xs, ys = self.lines()
        found = []
        for low, top in zip(ys, ys[1:]):
            for left, right in zip(xs, xs[1:]):
                found.append((left, low, right, top, self.height_in((left + right) / 2, (low + top) / 2)))
        return found


# What is no field, with the place that is told of it.
NO_FIELDS = [(thing, None) for thing in ODD_THINGS if thing != (None, None)]
NO_FIELDS += [((2, ((1,),), 1), None), ([2, ((1,),)], None), ((2,), None)]
NO_FIELDS += [((thing, ((0,),)), "high") for thing in (0, 7, -1, True, None, "1", 1.0, (1,))]
NO_FIELDS += [((None, None), "high"), ((0, None), "high"), ((True, ()), "high")]
NO_FIELDS += [((2, thing), "rows") for thing in (None, 1, (), [], [(1,)], "ab", {}, ((1,),) * 9)]
NO_FIELDS += [
    ((2, ((3,),)), 0),
    ((2, ((-1,),)), 0),
    ((2, ((True,),)), 0),
    ((2, ((None,),)), 0),
    ((2, ((),)), 0),
    ((2, ([1],)), 0),
    ((2, ("1",)), 0),
    ((2, (1,)), 0),
    ((2, ((0,) * 9,)), 0),
    ((2, ((0, 1), (0, 1), (0,))), 2),
    ((2, ((0, 1), (0, 1, 1), (0,))), 1),
    ((2, ((0,), (0, 1), (0, 1))), 1),
    ((2, ((0, 1), (0, 3), (0, -1))), 1),
    ((2, ((0, 1), (0, 1), [0, 1], ())), 2),
    ((2, ((0, 1), (0, 1.0))), 1),
    ((6, ((0,),) * 7 + (None,)), 7),
]


def field_from(chance, most=8, high=None):
    """A field by chance, often with large level parts."""
    high = high or chance.randint(1, 6)
    wide, long = chance.randint(1, most), chance.randint(1, most)
    some = [chance.randint(0, high) for _ in range(chance.randint(1, 5))]
    return (high, tuple(tuple(chance.choice(some) for _ in range(wide)) for _ in range(long)))


# What is no tool, no tools: with the number that is told of the latter.
NO_TOOLS = ODD_THINGS + (
    (0, 1),
    (1, 0),
    (5, 1),
    (1, 7),
    (-1, 1),
    (True, 1),
    (1, True),
    (1.0, 1),
    [1, 1],
    (1, 1, 1),
    ("1", 1),
    (1, None),
)


def tools_from(chance, many=None):
    """None to four unlike tools by chance."""
    kinds = [(side, length) for side in range(1, 5) for length in range(1, 7)]
    return tuple(chance.sample(kinds, chance.randint(0, 4) if many is None else many))


def cells_of(field):
    return [(i, j) for i in range(len(field[1][0])) for j in range(len(field[1]))]


def at(field, cell):
    return field[1][cell[1]][cell[0]]


def under(field, tool, place):
    """The cells under a tool at a place, by looking at each cell."""
    return list(_under(tuple(cells_of(field)), tool, place))


def ring(field, tool, place):
    """The cells that aren't under a tool at a place, and no further than one from one that is."""
    return list(_ring(tuple(cells_of(field)), tool, place))


def places(field, tool):
    """All places of a tool: all from which a cell comes to lie under it."""
    return list(_places(tuple(cells_of(field)), tool))


@lru_cache(maxsize=None)
def _under(cells, tool, place):
    return [(i, j) for i, j in cells if 0 <= i - place[0] < tool[0] and 0 <= j - place[1] < tool[0]]


@lru_cache(maxsize=None)
def _ring(cells, tool, place):
    mine = _under(cells, tool, place)
    beside = {(i + x, j + y) for i, j in mine for x in (-1, 0, 1) for y in (-1, 0, 1)}
    return [cell for cell in cells if cell in beside and cell not in mine]


@lru_cache(maxsize=None)
def _places(cells, tool):
    around = [(i, j) for i in range(-6, 12) for j in range(-6, 12)]
    return [place for place in around if _under(cells, tool, place)]


def stands_well(field, stock, tool, place, height):
    """Whether a tool may stand there, straight by the words of the document."""
    if any(at(field, cell) > height for cell in under(field, tool, place)):
        return False
    return not any(at(stock, cell) > height + tool[1] for cell in ring(field, tool, place))


def lowered(stock, tool, place, height):
    """The stock behind a stand."""
    below = under(stock, tool, place)
    rows = []
    for j, row in enumerate(stock[1]):
        rows.append(tuple(min(one, height) if (i, j) in below else one for i, one in enumerate(row)))
    return (stock[0], tuple(rows))


def least_stock(field, tools):
    """What tools reach: all stands that may be, one row after the other, till none changes anything."""
    high = field[0]
    stock = {cell: high for cell in cells_of(field)}
    seats = []
    for tool in tools:
        for place in places(field, tool):
            seats.append((tool, under(field, tool, place), ring(field, tool, place)))
    ahead = None
    while ahead != stock:
        ahead = dict(stock)
        for tool, below, around in seats:
            for height in range(high, -1, -1):
                if any(at(field, cell) > height for cell in below):
                    break
                if any(stock[cell] > height + tool[1] for cell in around):
                    break
                for cell in below:
                    stock[cell] = min(stock[cell], height)
    return (high, tuple(tuple(stock[i, j] for i in range(len(row))) for j, row in enumerate(field[1])))


def pits_from(chance):
    """A plate with square pits, deep ones that are wide and shallow ones that are narrow."""
    wide, long, high = chance.randint(3, 5), chance.randint(3, 5), chance.randint(4, 6)
    rows = [[high] * wide for _ in range(long)]
    for _ in range(chance.randint(1, 4)):
        side = chance.randint(1, 3)
        i, j, depth = chance.randrange(wide), chance.randrange(long), min(high, side + chance.randint(0, 2))
        for row in rows[j:j + side]:
            row[i:i + side] = [high - depth] * len(row[i:i + side])
    return (high, tuple(tuple(row) for row in rows))


def refuses_in_order(case, call, good, wrongs):
    """Each wrong thing is refused as told, also where what is looked at behind it is wrong, too.

    Wrongs are, in the order in which they are due, (name, [(thing, error, what its fields tell)]).
    """
    for number, (name, some) in enumerate(wrongs):
        behind = wrongs[number + 1:]
        also = [{}] + [{other: more[0][0]} for other, more in behind]
        also.append({other: more[-1][0] for other, more in behind})
        for thing, error, told in some:
            for others in also:
                found = refusal(case, error, call, **{**good, **others, name: thing})
                case.assertEqual(tuple(vars(found).values()), told, (name, thing))
