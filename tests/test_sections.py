import random
import unittest
from fractions import Fraction

from panelworks.bodies import volume
from panelworks.errors import BadBlock, BadFeature, BadSketch, OutOfPlace
from panelworks.sections import section

from tests.helpers import ODD_THINGS, Body, pair, plain, point, refusal, whole


def drawn(*rectangles):
    """Places and features of one rectangle each: x0, y0, x1, y1, height."""
    xs = sorted({one[k] for one in rectangles for k in (0, 2)})
    ys = sorted({one[k] for one in rectangles for k in (1, 3)})
    nodes = sorted({(one[k], one[m]) for one in rectangles for k in (0, 2) for m in (1, 3)})
    assert len(nodes) <= 12 and xs and ys
    named = dict(zip(nodes, "abcdefghijkl"))
    places = tuple(point(named[node], *node) for node in nodes)
    features = tuple(
        ((named[x0, y0], named[x1, y0], named[x1, y1], named[x0, y1]), height) for x0, y0, x1, y1, height in rectangles
    )
    return features, places


def told(body, level):
    """What section tells, by the pieces of the body put on a wider grid, one flood after the other."""
    xs, ys = body.lines()
    high = {}
    for left, low, right, top, height in body.pieces():
        high[xs.index(left), ys.index(low)] = height > level
    wide, long = len(xs) - 1, len(ys) - 1
    around = [(x, y) for x in range(-1, wide + 1) for y in range(-1, long + 1)]
    area = sum(
        ((xs[x + 1] - xs[x]) * (ys[y + 1] - ys[y]) for (x, y), is_high in high.items() if is_high), Fraction(0)
    )
    rim = Fraction(0)
    for (x, y), is_high in high.items():
        if is_high:
            rim += (ys[y + 1] - ys[y]) * (2 - high.get((x - 1, y), False) - high.get((x + 1, y), False))
            rim += (xs[x + 1] - xs[x]) * (2 - high.get((x, y - 1), False) - high.get((x, y + 1), False))
    sides = [(1, 0), (-1, 0), (0, 1), (0, -1)]
    corners = sides + [(1, 1), (1, -1), (-1, 1), (-1, -1)]
    parts = floods([at for at in around if high.get(at, False)], sides)
    others = floods([at for at in around if not high.get(at, False)], corners)
    return pair(area), pair(rim), parts, others - 1


def floods(cells, ways):
    rest, many = set(cells), 0
    while rest:
        many += 1
        new = [rest.pop()]
        while new:
            x, y = new.pop()
            for dx, dy in ways:
                if (x + dx, y + dy) in rest:
                    rest.discard((x + dx, y + dy))
                    new.append((x + dx, y + dy))
    return many


class Sections(unittest.TestCase):
    def test_whole_block(self):
        for level in range(3):
            self.assertEqual(section((4, 2, 3), (), (), level), (whole(8), whole(12), 1, 0))
        self.assertEqual(section(block=(1, 1, 1), features=(), places=(), level=0), (whole(1), whole(4), 1, 0))

    def test_holes(self):
        features, places = drawn((1, 1, 3, 3, 1))
        self.assertEqual(section((4, 4, 2), features, places, 0), (whole(16), whole(16), 1, 0))
        self.assertEqual(section((4, 4, 2), features, places, 1), (whole(12), whole(24), 1, 1))
        # Open at the block's border, along a side.
        features, places = drawn((1, 0, 3, 3, 0))
        self.assertEqual(section((4, 4, 2), features, places, 0), (whole(10), whole(22), 1, 0))
        # Two holes that meet at a corner are one; a third by itself.
        features, places = drawn((1, 1, 2, 2, 0), (2, 2, 3, 3, 0))
        self.assertEqual(section((4, 4, 2), features, places, 1), (whole(14), whole(24), 1, 1))
        features, places = drawn((2, 1, 3, 2, 0), (1, 2, 2, 3, 0))
        self.assertEqual(section((4, 4, 2), features, places, 1), (whole(14), whole(24), 1, 1))
        features, places = drawn((1, 1, 2, 2, 0), (3, 3, 4, 4, 0))
        self.assertEqual(section((5, 5, 2), features, places, 1), (whole(23), whole(28), 1, 2))
        # In touch with what is outside at its corner by the corner of a low piece there.
        features, places = drawn((0, 0, 1, 1, 0), (1, 1, 2, 2, 0))
        self.assertEqual(section((3, 3, 1), features, places, 0), (whole(7), whole(16), 1, 0))

    def test_parts_that_meet_at_corners_alone(self):
        features, places = drawn((0, 0, 4, 4, 0), (0, 0, 2, 2, 1), (2, 2, 4, 4, 1))
        self.assertEqual(section((4, 4, 1), features, places, 0), (whole(8), whole(16), 2, 0))
        features, places = drawn((0, 0, 4, 4, 0), (2, 0, 4, 2, 1), (0, 2, 2, 4, 1))
        self.assertEqual(section((4, 4, 1), features, places, 0), (whole(8), whole(16), 2, 0))
        # Two that don't meet at all.
        features, places = drawn((0, 0, 3, 3, 0), (1, 0, 2, 1, 1), (1, 2, 2, 3, 1))
        self.assertEqual(section((3, 3, 1), features, places, 0), (whole(2), whole(8), 2, 0))

    def test_a_part_within_a_hole(self):
        features, places = drawn((1, 1, 4, 4, 0), (2, 2, 3, 3, 2))
        self.assertEqual(section((5, 5, 2), features, places, 1), (whole(17), whole(36), 2, 1))

    def test_with_none(self):
        features, places = drawn((0, 0, 2, 2, 1))
        self.assertEqual(section((2, 2, 3), features, places, 1), (whole(0), whole(0), 0, 0))
        self.assertEqual(section((2, 2, 3), features, places, 2), (whole(0), whole(0), 0, 0))
        self.assertEqual(section((2, 2, 3), features, places, 0), (whole(4), whole(8), 1, 0))

    def test_off_whole_numbers(self):
        features, places = drawn((Fraction(1, 2), Fraction(1, 3), Fraction(3, 2), Fraction(2, 3), 0))
        self.assertEqual(section((2, 1, 1), features, places, 0), (pair("5/3"), pair(6 + Fraction(8, 3)), 1, 1))

    def test_by_chance(self):
        chance = random.Random(131)
        met = set()
        for k in range(120):
            body = Body(chance, many=5 if k % 2 else None)
            high = body.block[2]
            areas = []
            for level in range(high):
                found = section(*body.things(), level)
                self.assertEqual(found, told(body, level))
                areas.append(plain(found[0]))
                met.add(("parts", found[2]))
                met.add(("holes", found[3]))
            self.assertEqual(pair(sum(areas)), volume(*body.things()))
        self.assertLessEqual({("parts", k) for k in range(3)} | {("holes", k) for k in range(2)}, met)


class Refused(unittest.TestCase):
    def test_no_level(self):
        features, places = drawn((0, 0, 2, 2, 1))
        for level in ODD_THINGS + (-1, 3, 4, whole(0), 1.0):
            refusal(self, OutOfPlace, section, (2, 2, 3), features, places, level)
        refusal(self, OutOfPlace, section, (2, 2, 1), (), (), 1)
        self.assertEqual(section((2, 2, 1), (), (), 0)[2:], (1, 0))

    def test_order(self):
        features, places = drawn((0, 0, 2, 2, 1))
        self.assertEqual(refusal(self, BadBlock, section, (2, 2, 7), None, None, None).place, 2)
        self.assertIsNone(refusal(self, BadBlock, section, None, None, None, None).place)
        found = refusal(self, BadSketch, section, (2, 2, 3), None, places[:1] * 2, None)
        self.assertEqual((found.part, found.number), ("points", 1))
        self.assertIsNone(refusal(self, BadFeature, section, (2, 2, 3), None, places, None).number)
        self.assertEqual(refusal(self, BadFeature, section, (2, 2, 3), features + (1,), places, None).number, 1)


if __name__ == "__main__":
    unittest.main()
