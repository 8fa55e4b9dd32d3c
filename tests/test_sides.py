import random
import unittest
from fractions import Fraction

from panelworks.errors import BadOutline, BadPaper, OutOfPlace
from panelworks.sides import check_side, side_of, side_paper

from tests.helpers import ODD_THINGS, loop_from, pair, plain, refusal, spots, whole

SQUARE = spots(0, 0, 2, 0, 2, 2, 0, 2)
# Three teeth that point up, with gaps between them: edges 1, 3, 5, 7, 9 and 11 are upright.
COMB = spots(0, 0, 5, 0, 5, 3, 4, 3, 4, 1, 3, 1, 3, 3, 2, 3, 2, 1, 1, 1, 1, 3, 0, 3)
NO_SPOTS = (
    (0, 0),
    (whole(0),),
    (whole(0), whole(0), whole(0)),
    [whole(0), whole(0)],
    (whole(0), (2, 2)),
    (whole(0), None),
    ((0, 1), (True, 1)),
)


def spot(x, y):
    return (pair(x), pair(y))


class Sides(unittest.TestCase):
    def test_told(self):
        told = (
            (spot(1, 1), "in", ("left", (3,))),
            (spot("1/100", "199/100"), "in", ("left", (3,))),
            (spot(3, 1), "out", ("left", (1, 3))),
            (spot(-1, 1), "out", ("left", ())),
            (spot(1, 3), "out", ("left", ())),
            (spot(3, 2), "out", ("left", ())),
            (spot(3, 0), "out", ("left", (1, 3))),
            (spot(3, -1), "out", ("left", ())),
            (spot(-1, 0), "out", ("left", ())),
            (spot(1, 0), "edge", ("edge", 0)),
            (spot(2, 1), "edge", ("edge", 1)),
            (spot(1, 2), "edge", ("edge", 2)),
            (spot(0, 1), "edge", ("edge", 3)),
            (spot(0, 0), "edge", ("edge", 0)),
            (spot(2, 0), "edge", ("edge", 0)),
            (spot(2, 2), "edge", ("edge", 1)),
            (spot(0, 2), "edge", ("edge", 2)),
            (spot(0, "2/3"), "edge", ("edge", 3)),
        )
        for there, word, paper in told:
            self.assertEqual(side_of(SQUARE, there), word, there)
            self.assertEqual(side_paper(SQUARE, there), paper)
            self.assertEqual(check_side(SQUARE, there, paper), word)
        there = spot(1, 1)
        self.assertEqual(side_of(loop=SQUARE, spot=there), "in")
        self.assertEqual(side_paper(loop=SQUARE, spot=there), ("left", (3,)))
        self.assertEqual(check_side(loop=SQUARE, spot=there, paper=("left", (3,))), "in")

    def test_at_the_height_of_corners(self):
        told = (
            (spot(6, 1), "out", ("left", (1, 3, 5, 7, 9, 11))),
            (spot(6, 3), "out", ("left", ())),
            (spot(6, 0), "out", ("left", (1, 11))),
            (spot("5/2", 1), "in", ("left", (7, 9, 11))),
            (spot("7/2", 2), "out", ("left", (5, 7, 9, 11))),
            (spot("7/2", 1), "edge", ("edge", 4)),
            (spot(3, 1), "edge", ("edge", 4)),
            (spot(4, 1), "edge", ("edge", 3)),
            (spot("1/2", "1/2"), "in", ("left", (11,))),
            (spot("9/2", 2), "in", ("left", (3, 5, 7, 9, 11))),
        )
        for there, word, paper in told:
            self.assertEqual(side_of(COMB, there), word, there)
            self.assertEqual(side_paper(COMB, there), paper)
            self.assertEqual(check_side(COMB, there, paper), word)

    def test_by_cells(self):
        chance = random.Random(71)
        found = []
        for _ in range(60):
            loop, cells, xs, ys = loop_from(chance)
            for x, y in self.some_spots(chance, xs, ys):
                word = side_by_cells(cells, xs, ys, x, y)
                found.append(word)
                there = (pair(x), pair(y))
                self.assertEqual(side_of(loop, there), word)
                paper = side_paper(loop, there)
                self.assertEqual(check_side(loop, there, paper), word)
                self.right(loop, there, paper)
        self.assertGreater(min(found.count(word) for word in ("in", "out", "edge")), 150)

    def some_spots(self, chance, xs, ys):
        found = []
        for row in (xs, ys):
            lines = [plain(one) for one in row]
            between = [(one + other) / 2 for one, other in zip(lines, lines[1:])]
            found.append(lines + between + [lines[0] - 1, lines[-1] + Fraction(1, 3)])
        return [(chance.choice(found[0]), chance.choice(found[1])) for _ in range(40)]

    def right(self, loop, there, paper):
        edges = list(zip(loop, loop[1:] + loop[:1]))
        x, y = (plain(one) for one in there)
        boxes = [[sorted(plain(end[axis]) for end in edge) for axis in (0, 1)] for edge in edges]
        having = [k for k, box in enumerate(boxes) if box[0][0] <= x <= box[0][1] and box[1][0] <= y <= box[1][1]]
        if having:
            self.assertEqual(paper, ("edge", having[0]))
        else:
            left = [k for k, box in enumerate(boxes) if box[0][0] == box[0][1] < x and box[1][0] <= y < box[1][1]]
            self.assertEqual(paper, ("left", tuple(left)))


def side_by_cells(cells, xs, ys, x, y):
    """The side of a spot by the cells of a grid round it."""
    columns = columns_at(xs, x)
    rows = columns_at(ys, y)
    there = {(column, row) in cells for column in columns for row in rows}
    return {(True,): "in", (False,): "out", (False, True): "edge"}[tuple(sorted(there))]


def columns_at(lines, one):
    """The numbers of the columns that have it, their borders belonging to them; -1 is outside."""
    lines = [plain(line) for line in lines]
    found = [k for k in range(len(lines) - 1) if lines[k] <= one <= lines[k + 1]]
    return found + [-1] if len(found) < 2 and one in (lines[0], lines[-1]) else found or [-1]


class Lookers(unittest.TestCase):
    def wrong(self, place, loop, there, paper):
        self.assertEqual(refusal(self, BadPaper, check_side, loop, there, paper).place, place, paper)

    def test_of_no_form(self):
        wrong = (
            ("edge",),
            ("left",),
            ("edge", 0, 0),
            ["edge", 0],
            ("in", ()),
            ("left", [3]),
            ("left", 3),
            ("left", None),
            ("edge", None),
            ("edge", True),
            ("edge", "0"),
            ("edge", (0,)),
            ("edge", 0.0),
            (None, 0),
            (["left"], (3,)),
            ("left", (None,)),
            ("left", ("3",)),
            ("left", (True,)),
            ("left", (3.0,)),
            ("left", ((3,),)),
            ("Left", (3,)),
        )
        for paper in ODD_THINGS + wrong:
            for there in (spot(1, 1), spot(1, 0), spot(9, 9)):
                self.wrong(None, SQUARE, there, paper)

    def test_another_edge(self):
        for number in (1, 2, 3, 4, -1, -4, 99):
            self.wrong(0, SQUARE, spot(1, 0), ("edge", number))
        # It has the corner, but isn't the first one that has.
        self.wrong(0, SQUARE, spot(2, 0), ("edge", 1))
        self.wrong(0, SQUARE, spot(0, 0), ("edge", 3))

    def test_the_other_word(self):
        for numbers in ((), (3,), (1, 3), (0,)):
            self.wrong(0, SQUARE, spot(1, 0), ("left", numbers))
        for there in (spot(1, 1), spot(3, 1), spot(9, 9)):
            for number in range(4):
                self.wrong(0, SQUARE, there, ("edge", number))

    def test_numbers_that_arent_so(self):
        there = spot("7/2", 2)
        for paper, place in (
            ((5, 7, 9, 11), None),
            ((3, 5, 7, 9, 11), 0),
            ((5, 6, 7, 9, 11), 1),
            ((5, 7, 9, 10), 3),
            ((5, 7, 9, 11, 12), 4),
            ((5, 7, 9, 11, 11), 4),
            ((5, 7, 7, 9, 11), 2),
            ((7, 5, 9, 11), 1),
            ((-1, 5, 7, 9, 11), 0),
            ((5, 7, 9, 99), 3),
            ((1,), 0),
            ((5, 7, 9, 11, 1), 4),
        ):
            if place is None:
                self.assertEqual(check_side(COMB, there, ("left", paper)), "out")
            else:
                self.wrong(place, COMB, there, ("left", paper))

    def test_numbers_that_lack(self):
        there = spot("7/2", 2)
        for numbers in ((), (5,), (5, 7), (5, 7, 9), (11,), (7, 9, 11), (5, 11), (9, 11)):
            self.wrong(len(numbers), COMB, there, ("left", numbers))
        # What isn't so goes ahead of what lacks.
        self.wrong(1, COMB, there, ("left", (5, 6)))


class Refused(unittest.TestCase):
    def test_in_their_order(self):
        for call, more in ((side_of, ()), (side_paper, ()), (check_side, (None,))):
            for loop in ODD_THINGS + (SQUARE[:3], list(SQUARE)):
                self.assertIsNone(refusal(self, BadOutline, call, loop, None, *more).number)
            self.assertEqual(refusal(self, BadOutline, call, spots(0, 0, 1, 0, 2, 0, 2, 1), None, *more).number, 1)
            for there in NO_SPOTS + ODD_THINGS:
                refusal(self, OutOfPlace, call, SQUARE, there, *more)


if __name__ == "__main__":
    unittest.main()
