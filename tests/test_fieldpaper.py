import random
import unittest
from fractions import Fraction

from panelworks.bodies import height_at, pieces_of
from panelworks.errors import BadBlock, BadFeature, BadPaper, BadSketch
from panelworks.fieldpaper import check_field, field_paper, fields_of
from panelworks.fields import crossed, height_on

from tests.helpers import ODD_THINGS, Body, pair, plain, point, refusal

BLOCK = (2, 2, 3)
PLACES = (point("a", "1/2", 0), point("b", "3/2", 0), point("c", "3/2", 1), point("d", "1/2", 1))
FEATURES = ((("a", "b", "c", "d"), 1),)
UNIT = (((0, 1), (0, 1), (1, 1), (1, 1)),)


def box(x0, y0, x1, y1):
    return (pair(x0), pair(y0), pair(x1), pair(y1))


PAPER = (
    (box(0, 0, "1/2", 1), box("1/2", 0, 1, 1)),
    (box(1, 0, "3/2", 1), box("3/2", 0, 2, 1)),
    (box(0, 1, 1, 2),),
    (box(1, 1, 2, 2),),
)
SHOWN = ((3, ((3, 3), (3, 3))), (3, ((1, 1), (3, 3))))


def counted(body):
    """Both fields, cell by cell, by the body's pieces."""
    wide, long, high = body.block
    pieces = body.pieces()
    greatest, least = [], []
    for j in range(long):
        heights = []
        for i in range(wide):
            heights.append([p[4] for p in pieces if i <= p[0] and p[2] <= i + 1 and j <= p[1] and p[3] <= j + 1])
        greatest.append(tuple(max(some) for some in heights))
        least.append(tuple(min(some) for some in heights))
    return ((high, tuple(greatest)), (high, tuple(least)))


def tiles_from(chance, body, i, j):
    """Any tiles of a cell: its square, cut where the body needs it, and sometimes where it doesn't."""
    edges = body.pieces()
    open_ones = [tuple(Fraction(one) for one in (i, j, i + 1, j + 1))]
    done = []
    while open_ones:
        x0, y0, x1, y1 = open_ones.pop()
        within = [p for p in edges if p[0] < x1 and p[2] > x0 and p[1] < y1 and p[3] > y0]
        cuts = [("x", one) for p in within for one in (p[0], p[2]) if x0 < one < x1]
        cuts += [("y", one) for p in within for one in (p[1], p[3]) if y0 < one < y1]
        if not cuts and chance.random() < 0.3 and len(done) < 8:
            cuts = [("x", (2 * x0 + x1) / 3), ("y", (y0 + 2 * y1) / 3)]
        if not cuts:
            done.append(box(x0, y0, x1, y1))
            continue
        axis, at = chance.choice(cuts)
        if axis == "x":
            open_ones += [(x0, y0, at, y1), (at, y0, x1, y1)]
        else:
            open_ones += [(x0, y0, x1, at), (x0, at, x1, y1)]
    chance.shuffle(done)
    return tuple(done)


class Fields(unittest.TestCase):
    def test_told(self):
        self.assertEqual(fields_of((2, 1, 3), (), ()), ((3, ((3, 3),)), (3, ((3, 3),))))
        self.assertEqual(fields_of(block=BLOCK, features=FEATURES, places=PLACES), SHOWN)
        self.assertEqual(crossed(*SHOWN), ((0, 0), (1, 0)))
        # A feature on the lines crosses nothing.
        places = tuple(point(name, x, y) for name, x, y in zip("abcd", (0, 1, 1, 0), (0, 0, 1, 1)))
        self.assertEqual(fields_of(BLOCK, FEATURES, places), ((3, ((1, 3), (3, 3))),) * 2)

    def test_by_chance(self):
        chance = random.Random(151)
        for k in range(80):
            body = Body(chance, many=5 if k % 2 else None, whole_ones=k % 3 == 0)
            wanted = counted(body)
            self.assertEqual(fields_of(*body.things()), wanted)
            if k % 3 == 0:
                self.assertEqual(wanted[0], wanted[1])
            for _ in range(6):
                x = pair(Fraction(chance.randint(0, 12 * body.block[0]), 12))
                y = pair(Fraction(chance.randint(0, 12 * body.block[1]), 12))
                self.at_a_point(body, wanted, x, y)

    def at_a_point(self, body, fields, x, y):
        """The target is nowhere below the body, and as high where no cell that has the point is crossed."""
        mine, others = height_at(*body.things(), x, y), height_on(fields[0], x, y)
        self.assertGreaterEqual(others, mine)
        near = [
            (i, j)
            for i, j in crossed(*fields)
            if i <= plain(x) <= i + 1 and j <= plain(y) <= j + 1
        ]
        if not near:
            self.assertEqual(others, mine)


class Papers(unittest.TestCase):
    def test_let_by(self):
        self.assertEqual(check_field(block=BLOCK, features=FEATURES, places=PLACES, paper=PAPER), SHOWN)
        told = field_paper(block=BLOCK, features=FEATURES, places=PLACES)
        self.assertEqual(check_field(BLOCK, FEATURES, PLACES, told), SHOWN)
        plain_one = field_paper((1, 1, 2), (), ())
        self.assertEqual(check_field((1, 1, 2), (), (), plain_one), ((2, ((2,),)),) * 2)
        self.assertEqual(check_field((1, 1, 2), (), (), (UNIT,)), ((2, ((2,),)),) * 2)

    def test_any_right_one(self):
        chance = random.Random(152)
        for k in range(60):
            body = Body(chance, many=5 if k % 2 else None)
            wanted = counted(body)
            self.assertEqual(check_field(*body.things(), field_paper(*body.things())), wanted)
            wide, long, _ = body.block
            made = tuple(tiles_from(chance, body, i, j) for j in range(long) for i in range(wide))
            self.assertEqual(check_field(*body.things(), made), wanted)

    def test_fewer_tiles_than_pieces(self):
        # Lines of a corner outside of a cell cut the pieces in it, and no edge goes there.
        features = ((("a", "b", "c", "d"), 1),)
        places = tuple(point(name, x, y) for name, x, y in zip("abcd", ("1/2", 3, 3, "1/2"), (2, 2, 3, 3)))
        self.assertEqual(len(pieces_of((3, 3, 2), features, places)), 12)
        made = tuple((box(i, j, i + 1, j + 1),) for j in range(2) for i in range(3))
        made += ((box(0, 2, "1/2", 3), box("1/2", 2, 1, 3)), (box(1, 2, 2, 3),), (box(2, 2, 3, 3),))
        shown = check_field((3, 3, 2), features, places, made)
        self.assertEqual(shown, ((2, ((2, 2, 2), (2, 2, 2), (2, 1, 1))), (2, ((2, 2, 2), (2, 2, 2), (1, 1, 1)))))

    def test_a_comb(self):
        # Left of its last tooth there are five edges, left of each gap an even number.
        spots = zip("abcdefghijkl", (0, 5, 5, 4, 4, 3, 3, 2, 2, 1, 1, 0), (0, 0, 2, 2, 1, 1, 2, 2, 1, 1, 2, 2))
        places = tuple(point(*one) for one in spots)
        features = ((tuple("abcdefghijkl"), 1),)
        shown = (2, ((1, 1, 1, 1, 1), (1, 2, 1, 2, 1)))
        told = field_paper((5, 2, 2), features, places)
        self.assertEqual(check_field((5, 2, 2), features, places, told), (shown, shown))

    def test_a_hidden_edge_counts(self):
        features = FEATURES + ((("e", "f", "g", "h"), 3),)
        places = PLACES + tuple(point(name, x, y) for name, x, y in zip("efgh", (0, 2, 2, 0), (0, 0, 2, 2)))
        self.assertEqual(check_field(BLOCK, features, places, PAPER), ((3, ((3, 3),) * 2),) * 2)
        whole_ones = tuple((box(i, j, i + 1, j + 1),) for j in range(2) for i in range(2))
        self.assertEqual(refusal(self, BadPaper, check_field, BLOCK, features, places, whole_ones).place, 0)


class Spoilt(unittest.TestCase):
    def refused(self, paper, place):
        self.assertEqual(refusal(self, BadPaper, check_field, BLOCK, FEATURES, PLACES, paper).place, place)

    def test_of_another_form(self):
        for thing in ODD_THINGS + (PAPER[:3], PAPER + PAPER[:1], list(PAPER)):
            self.refused(thing, None)

    def test_no_tiles(self):
        left, right = PAPER[0]
        wrong = ODD_THINGS + (
            list(PAPER[0]),
            PAPER[1],
            PAPER[0][0],
            # One gone, one twice, one too many.
            (left,),
            (right,),
            (left, right, right),
            (left, left),
            PAPER[0] + (box(0, 0, "1/9", "1/9"),),
            # An edge goes into it.
            (box(0, 0, 1, 1),),
            (box(0, 0, "2/3", 1), box("2/3", 0, 1, 1)),
            (box(0, 0, 1, "1/2"), box(0, "1/2", 1, 1)),
            # Over the border of the cell, beside it.
            (box("-1/2", 0, "1/2", 1), right),
            (left, box("1/2", 0, "3/2", 1)),
            (left, box("1/2", "-1/2", 1, 1)),
            (left, box("1/2", 0, 1, "3/2")),
            (left, box(1, 0, "3/2", 1)),
            # One moved over the border so that areas sum to one, and none is over another one.
            (left, box("1/2", "1/2", 1, "3/2")),
            (left, box("1/2", "-1/2", 1, "1/2")),
            (left, box("3/4", 0, "5/4", 1)),
            (box("-1/4", 0, "1/4", 1), right),
            # One moved so that areas sum to one, over one another.
            (left, box("1/2", 0, 1, "1/2"), box("1/2", "1/4", 1, "3/4")),
            (left, box("1/2", 0, 1, "3/4"), box("1/2", "1/4", 1, "1/2")),
            # No rectangles.
            (left, right + right[:1]),
            (left, right[:3]),
            (left, list(right)),
            (left, box(1, 0, "1/2", 1)),
            (left, box("1/2", 1, 1, 0)),
            (left, right, box(0, 0, 0, 1)),
            (left, right, box(0, 0, 1, 0)),
            (left, right[:3] + (1,)),
            (left, right[:3] + ((2, 2),)),
            (left, right[:3] + ((True, 1),)),
            (left, right, None),
        )
        for thing in wrong:
            self.refused((thing,) + PAPER[1:], 0)
            self.refused((thing, thing) + PAPER[2:], 0)
            self.refused(PAPER[:3] + (thing,), 3)
        self.refused(PAPER[:1] + PAPER[:1] + PAPER[2:], 1)
        self.refused((PAPER[0], PAPER[2][0], PAPER[1][0], PAPER[3]), 1)
        self.refused((PAPER[0], PAPER[1], PAPER[3], PAPER[2]), 2)

    def test_first(self):
        for block, place in (((2, 2), None), ((2, 9, 3), 1), ((2, 2, True), 2)):
            for call in (fields_of, field_paper):
                self.assertEqual(refusal(self, BadBlock, call, block, None, None).place, place)
            self.assertEqual(refusal(self, BadBlock, check_field, block, None, None, None).place, place)
        for places, number in ((None, None), (PLACES[:1] * 2, 1), ((1,), 0)):
            for call in (fields_of, field_paper):
                found = refusal(self, BadSketch, call, BLOCK, None, places)
                self.assertEqual((found.part, found.number), ("points", number))
            found = refusal(self, BadSketch, check_field, BLOCK, None, places, None)
            self.assertEqual((found.part, found.number), ("points", number))
        for features, number in ((None, None), (FEATURES + (1,), 1), (((("a", "b", "c", "e"), 1),), 0)):
            for call in (fields_of, field_paper):
                self.assertEqual(refusal(self, BadFeature, call, BLOCK, features, PLACES).number, number)
            found = refusal(self, BadFeature, check_field, BLOCK, features, PLACES, None)
            self.assertEqual(found.number, number)


if __name__ == "__main__":
    unittest.main()
