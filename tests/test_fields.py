import random
import unittest
from fractions import Fraction

from panelworks.errors import BadField, OutOfPlace
from panelworks.fields import cell_of, crossed, field_volume, height_on, is_field, need_field, sides_of

from tests.helpers import NO_FIELDS, ODD_THINGS, field_from, pair, refusal, whole

FIELD = (3, ((0, 1, 2, 3), (3, 2, 1, 0)))


class Fields(unittest.TestCase):
    def test_let_by(self):
        for field in (FIELD, (1, ((0,),)), (6, ((6,) * 8,) * 8), (6, ((0,),) * 8), (2, ((0,) * 8,))):
            self.assertIs(is_field(field), True)
            self.assertIsNone(need_field(field))
        self.assertIs(is_field(thing=FIELD), True)
        self.assertIsNone(need_field(field=FIELD))

    def test_refused(self):
        for field, place in NO_FIELDS:
            self.assertIs(is_field(field), False)
            self.assertEqual(refusal(self, BadField, need_field, field).place, place)
            for call, more in ((sides_of, 0), (field_volume, 0), (cell_of, 1), (height_on, 2), (crossed, 1)):
                self.assertEqual(refusal(self, BadField, call, field, *[None] * more).place, place)
            self.assertEqual(refusal(self, BadField, crossed, FIELD, field).place, place)
        self.assertEqual(refusal(self, BadField, crossed, (0, ()), (1,)).place, "high")

    def test_sides_and_volume(self):
        self.assertEqual(sides_of(field=FIELD), (4, 2))
        self.assertEqual(sides_of((6, ((0,),) * 8)), (1, 8))
        self.assertEqual(field_volume(field=FIELD), 12)
        self.assertEqual(field_volume((6, ((6,) * 8,) * 8)), 384)
        self.assertEqual(field_volume((6, ((0,),))), 0)

    def test_cells(self):
        for i in range(4):
            self.assertEqual(cell_of(FIELD, (i, 0)), i)
            self.assertEqual(cell_of(field=FIELD, cell=(i, 1)), 3 - i)
        wrong = ((4, 0), (0, 2), (-1, 0), (0, -1), (0, 0, 0), [0, 0], (True, 0), (0, False), (0, None), ("0", 0))
        for cell in wrong + ((1.0, 0),) + ODD_THINGS:
            refusal(self, OutOfPlace, cell_of, FIELD, cell)


class Heights(unittest.TestCase):
    def test_told(self):
        for x, y, wanted in (
            ("1/2", "1/2", 0),
            (1, "1/2", 1),
            ("1/2", 1, 3),
            (1, 1, 3),
            (2, 1, 2),
            (0, 0, 0),
            (4, 0, 3),
            (4, 2, 0),
            (3, 2, 1),
            (3, 1, 3),
            ("7/2", "3/2", 0),
            ("299/100", "101/100", 1),
        ):
            self.assertEqual(height_on(FIELD, pair(x), pair(y)), wanted, (x, y))
        self.assertEqual(height_on(field=FIELD, x=whole(4), y=whole(1)), 3)

    def test_by_chance(self):
        chance = random.Random(141)
        for _ in range(60):
            field = field_from(chance)
            high, rows = field
            for _ in range(8):
                x = Fraction(chance.randint(0, 2 * len(rows[0])), 2)
                y = Fraction(chance.randint(0, 2 * len(rows)), 2)
                wanted = max(
                    rows[j][i]
                    for j in range(len(rows))
                    for i in range(len(rows[0]))
                    if i <= x <= i + 1 and j <= y <= j + 1
                )
                self.assertEqual(height_on(field, pair(x), pair(y)), wanted)

    def test_refused(self):
        for x, y in (("-1/9", 1), (1, "-1/9"), ("37/9", 1), (1, "19/9"), (5, 5), (2, 4), (-1, 0)):
            refusal(self, OutOfPlace, height_on, FIELD, pair(x), pair(y))
        for thing in ODD_THINGS + (1, 0, (2, 2), (0, 2), (True, 1), (1, 0), [1, 1], whole(1) * 2):
            refusal(self, OutOfPlace, height_on, FIELD, thing, whole(1))
            refusal(self, OutOfPlace, height_on, FIELD, whole(1), thing)


class Crossed(unittest.TestCase):
    def test_told(self):
        self.assertEqual(crossed(FIELD, FIELD), ())
        self.assertEqual(crossed(target=FIELD, least=(3, ((0, 1, 0, 3), (3, 1, 1, 1)))), ((1, 1), (2, 0), (3, 1)))
        # Which one is greater, and how high each may be, doesn't count.
        self.assertEqual(crossed((1, ((0, 1),)), (6, ((4, 1),))), ((0, 0),))

    def test_by_chance(self):
        chance = random.Random(142)
        for _ in range(60):
            one = field_from(chance)
            high, rows = one
            other = (high, tuple(tuple(chance.choice((k, k, chance.randint(0, high))) for k in row) for row in rows))
            wanted = sorted(
                (i, j) for j, row in enumerate(rows) for i in range(len(row)) if row[i] != other[1][j][i]
            )
            self.assertEqual(crossed(one, other), tuple(wanted))

    def test_unlike_sides(self):
        for other in ((3, ((0,) * 4,)), (3, ((0,) * 2,) * 4), (3, ((0,) * 3,) * 2), (3, ((0,) * 4,) * 3)):
            refusal(self, OutOfPlace, crossed, FIELD, other)
            refusal(self, OutOfPlace, crossed, other, FIELD)


if __name__ == "__main__":
    unittest.main()
