import random
import unittest
from fractions import Fraction

from panelworks.errors import BadOutline, BadPaper
from panelworks.ground import Ground, ground_of
from panelworks.paving import check_paving, paving

from tests.helpers import ODD_THINGS, loop_from, pair, plain, refusal, spots

SQUARE = spots(0, 0, 2, 0, 2, 2, 0, 2)
ELL = spots(0, 0, 3, 0, 3, 1, 2, 1, 2, 2, 0, 2)


def box(x0, y0, x1, y1):
    return (pair(x0), pair(y0), pair(x1), pair(y1))


def halves(rectangle, chance):
    """A rectangle in two, cut by chance."""
    x0, y0, x1, y1 = [plain(one) for one in rectangle]
    part = Fraction(chance.randint(1, 5), 6)
    if chance.random() < 0.5:
        x = x0 + part * (x1 - x0)
        return [box(x0, y0, x, y1), box(x, y0, x1, y1)]
    y = y0 + part * (y1 - y0)
    return [box(x0, y0, x1, y), box(x0, y, x1, y1)]


def joined(rectangles):
    """The rectangles with the first two that make one together made one, else as they are."""
    for one in rectangles:
        for other in rectangles:
            if one[2] == other[0] and (one[1], one[3]) == (other[1], other[3]):
                made = (one[0], one[1], other[2], one[3])
            elif one[3] == other[1] and (one[0], one[2]) == (other[0], other[2]):
                made = (one[0], one[1], one[2], other[3])
            else:
                continue
            return [rest for rest in rectangles if rest not in (one, other)] + [made]
    return rectangles


def paving_from(chance, cells, xs, ys):
    """Any paving of the ground of some cells: rectangles by chance, joined and cut."""
    some = [(xs[x], ys[y], xs[x + 1], ys[y + 1]) for x, y in cells]
    chance.shuffle(some)
    for _ in range(chance.randint(0, len(some))):
        some = joined(some)
        chance.shuffle(some)
    for _ in range(chance.randint(0, 4)):
        some = some[1:] + halves(some[0], chance)
    chance.shuffle(some)
    return tuple(some)


def first_wrong(cells, xs, ys, paper):
    """What a looker must tell of a paper: by small cells of all lines, without edges or sides."""
    lines_x = sorted({plain(x) for x in xs} | {plain(one) for box in paper for one in box[::2]})
    lines_y = sorted({plain(y) for y in ys} | {plain(one) for box in paper for one in box[1::2]})
    small = [(x, y) for x in range(len(lines_x) - 1) for y in range(len(lines_y) - 1)]

    def has(box, at):
        x0, y0, x1, y1 = [plain(one) for one in box]
        x, y = at
        return x0 <= lines_x[x] and lines_x[x + 1] <= x1 and y0 <= lines_y[y] and lines_y[y + 1] <= y1

    ground = {at for at in small if any(has((xs[x], ys[y], xs[x + 1], ys[y + 1]), at) for x, y in cells)}
    taken = set()
    for number, box in enumerate(paper):
        mine = {at for at in small if has(box, at)}
        if not mine <= ground or mine & taken:
            return number
        taken |= mine
    return None if taken == ground else "area"


class Told(unittest.TestCase):
    def test_let_by(self):
        self.assertEqual(paving(SQUARE), (box(0, 0, 2, 2),))
        self.assertIsNone(check_paving(SQUARE, (box(0, 0, 2, 2),)))
        self.assertIsNone(check_paving(loop=ELL, paper=paving(loop=ELL)))
        for made in (
            (box(0, 0, 2, 2), box(2, 0, 3, 1)),
            (box(2, 0, 3, 1), box(0, 0, 2, 2)),
            (box(0, 0, 3, 1), box(0, 1, 2, 2)),
            (box(0, 0, 3, "1/2"), box(0, "1/2", 3, 1), box(0, 1, "1/3", 2), box("1/3", 1, 2, 2)),
        ):
            for loop in (ELL, ELL[::-1], ELL[2:] + ELL[:2]):
                self.assertIsNone(check_paving(loop, made))

    def test_by_chance(self):
        chance = random.Random(111)
        lengths = set()
        for _ in range(150):
            loop, cells, xs, ys = loop_from(chance)
            lengths.add(len(loop))
            told = paving(loop)
            self.assertIsNone(check_paving(loop, told))
            self.assertIsNone(first_wrong(cells, xs, ys, told))
            self.assertEqual(Ground(told), ground_of(loop))
            made = paving_from(chance, cells, xs, ys)
            self.assertIsNone(first_wrong(cells, xs, ys, made))
            self.assertIsNone(check_paving(loop, made))
        self.assertEqual(lengths, {4, 6, 8, 10, 12})


class Spoilt(unittest.TestCase):
    def refused(self, loop, paper, place):
        self.assertEqual(refusal(self, BadPaper, check_paving, loop, paper).place, place)

    def test_told(self):
        good = (box(0, 0, 2, 2), box(2, 0, 3, 1))
        self.refused(ELL, good[:1], "area")
        self.refused(ELL, good[1:], "area")
        self.refused(ELL, (), "area")
        self.refused(ELL, good + good[:1], 2)
        self.refused(ELL, good[:1] + good, 1)
        self.refused(ELL, good + (box(1, 1, 2, 2),), 2)
        self.refused(ELL, good + (box(2, 1, 3, 2),), 2)
        # Its middle is in, and the edges at the inner corner go into it.
        self.refused(ELL, (box(0, 0, 3, 2), box(5, 5, 6, 6)), 0)
        self.refused(ELL, (box(0, 0, "5/2", 2), box("5/2", 0, 3, 1)), 0)
        # No edge goes into it, and its middle is out, far out or right beside.
        self.refused(ELL, good[:1] + (box(2, 1, 3, 2),), 1)
        self.refused(ELL, good[:1] + (box(9, 9, 10, 10),), 1)
        # Its middle is on an edge.
        self.refused(SQUARE, (box(1, 0, 3, 2),), 0)
        # It has the whole square within, and no edge but the square's own.
        self.refused(SQUARE, (box(-1, -1, 3, 3),), 0)
        # One of the same area in another place, one of less area, one that goes over an edge a little.
        self.refused(SQUARE, (box(0, 0, 1, 2), box(0, 0, 1, 2)), 1)
        self.refused(SQUARE, (box(0, 0, 1, 2), box(1, 0, "199/100", 2)), "area")
        self.refused(SQUARE, (box(0, 0, 1, 2), box(1, 0, "201/100", 2)), 1)
        self.refused(SQUARE, (box(0, 0, 1, 2), box("99/100", 0, 2, 2)), 1)

    def test_the_first_is_told(self):
        self.refused(SQUARE, (box(5, 5, 6, 6), box(0, 0, 2, 2), box(0, 0, 2, 2)), 0)
        self.refused(SQUARE, (box(0, 0, 1, 1), box(0, 0, 2, 2), box(5, 5, 6, 6)), 1)
        # A slit as thin as can be is gone into, by the edges on both sides.
        slit = spots(0, 0, 3, 0, 3, 2, 2, 2, 2, 1, 1, 1, 1, 2, 0, 2)
        self.refused(slit, (box(0, 0, 3, 2),), 0)
        self.refused(slit, (box(0, 0, 3, 1), box(1, 1, 2, 2)), 1)
        self.assertIsNone(check_paving(slit, (box(0, 0, 3, 1), box(0, 1, 1, 2), box(2, 1, 3, 2))))

    def test_no_rectangles(self):
        good = box(0, 0, 2, 2)
        wrong = (
            box(0, 0, 0, 2),
            box(0, 0, 2, 0),
            box(2, 0, 0, 2),
            box(0, 2, 2, 0),
            good[:3],
            good + good[:1],
            list(good),
            (0, 0, 2, 2),
            good[:3] + ((4, 2),),
            good[:3] + ((True, 1),),
        )
        for thing in wrong + ODD_THINGS:
            self.refused(SQUARE, (thing,), None)
            self.refused(SQUARE, (good, thing), None)
            self.refused(SQUARE, (box(5, 5, 6, 6), thing), None)
        for thing in ODD_THINGS + ([good], good, Ground((good,))):
            if thing != ():
                self.refused(SQUARE, thing, None)

    def test_by_chance(self):
        chance = random.Random(112)
        met = set()
        for _ in range(400):
            loop, cells, xs, ys = loop_from(chance, 3)
            made = list(paving_from(chance, cells, xs, ys))
            self.spoil(chance, made, xs, ys)
            wanted = first_wrong(cells, xs, ys, tuple(made))
            met.add(wanted)
            self.assertIsNotNone(wanted)
            self.refused(loop, tuple(made), wanted)
        self.assertLessEqual({0, 1, 2, 3, "area"}, met)

    def spoil(self, chance, made, xs, ys):
        at = chance.randrange(len(made))
        sort = chance.choice(["gone", "twice", "moved", "more", "grown"])
        x0, y0, x1, y1 = [plain(one) for one in made[at]]
        by = chance.choice([1, -1, Fraction(1, 2), Fraction(-1, 3)])
        if sort == "gone":
            del made[at]
        elif sort == "twice":
            made.insert(chance.randint(0, len(made)), made[at])
        elif sort == "moved":
            made[at] = box(x0 + by, y0, x1 + by, y1)
        elif sort == "grown":
            made[at] = box(x0, y0, x1 + abs(by), y1)
        else:
            x, y = chance.randint(0, 2), chance.randint(0, 2)
            made.insert(chance.randint(0, len(made)), (xs[x], ys[y], xs[x + 1], ys[y + 1]))

    def test_outlines_first(self):
        for loop in ODD_THINGS + (SQUARE[:3], list(SQUARE)):
            self.assertIsNone(refusal(self, BadOutline, paving, loop).number)
            self.assertIsNone(refusal(self, BadOutline, check_paving, loop, None).number)
        for loop, number in (
            (spots(0, 0, 1, 0, 2, 0, 2, 2), 1),
            (spots(0, 0, 2, 0, 2, 2, 4, 2, 4, 4, 2, 4, 2, 2, 0, 2), 1),
        ):
            self.assertEqual(refusal(self, BadOutline, paving, loop).number, number)
            self.assertEqual(refusal(self, BadOutline, check_paving, loop, None).number, number)


if __name__ == "__main__":
    unittest.main()
