import random
import unittest
from fractions import Fraction

from panelworks.bodies import height_at, is_block, lines_of, need_block, need_features, pieces_of, volume
from panelworks.errors import BadBlock, BadFeature, BadSketch, OutOfPlace
from panelworks.words import MOST_FEATURES, MOST_HIGH, MOST_SIDE

from tests.helpers import ODD_THINGS, Body, pair, plain, point, refusal, whole

BLOCK = (4, 3, 2)
PLACES = (
    point("a", 1, 1),
    point("b", 3, 1),
    point("c", 3, 2),
    point("d", 1, 2),
    point("e", "1/2", -1),
    point("f", "7/2", -1),
    point("g", "7/2", "5/2"),
    point("h", "1/2", "5/2"),
)
INNER = ("a", "b", "c", "d")
OUTER = ("e", "f", "g", "h")
CALLS = (need_features, lines_of, pieces_of, volume)


def fractions(*numbers):
    return tuple(pair(number) for number in numbers)


class Blocks(unittest.TestCase):
    def test_let_by(self):
        for block in ((1, 1, 1), (8, 8, 6), (1, 8, 1), BLOCK):
            self.assertIs(is_block(block), True)
            self.assertIsNone(need_block(block))
        self.assertIs(is_block(thing=BLOCK), True)
        self.assertIsNone(need_block(block=BLOCK))
        self.assertEqual((MOST_SIDE, MOST_HIGH, MOST_FEATURES), (8, 6, 5))

    def test_refused(self):
        wrong = [(thing, None) for thing in ODD_THINGS + ([4, 4, 2], (4, 4), (4, 4, 2, 1), "442")]
        for thing in (0, 9, -1, True, None, "1", 1.0, (1,), whole(1)):
            wrong += [((thing, 4, 2), 0), ((4, thing, 2), 1), ((4, 4, thing), 2)]
            wrong += [((thing, thing, thing), 0), ((1, thing, thing), 1), ((thing, 1, 1), 0)]
        wrong += [((8, 8, 7), 2), ((4, 4, 0), 2)]
        for block, place in wrong:
            self.assertIs(is_block(block), False)
            self.assertEqual(refusal(self, BadBlock, need_block, block).place, place)
            for call in CALLS:
                self.assertEqual(refusal(self, BadBlock, call, block, None, None).place, place)
            self.assertEqual(refusal(self, BadBlock, height_at, block, None, None, None, None).place, place)


class Features(unittest.TestCase):
    def refused(self, features, number, places=PLACES, block=BLOCK):
        for call in CALLS:
            self.assertEqual(refusal(self, BadFeature, call, block, features, places).number, number)
        found = refusal(self, BadFeature, height_at, block, features, places, None, None)
        self.assertEqual(found.number, number)

    def test_let_by(self):
        for features in ((), ((INNER, 0),), ((INNER, 2),) * 5, ((INNER[::-1], 1), (OUTER, 2))):
            self.assertIsNone(need_features(BLOCK, features, PLACES))
        self.assertIsNone(need_features(block=BLOCK, features=((INNER, 1),), places=PLACES))
        self.assertIsNone(need_features(BLOCK, (), ()))

    def test_no_tuple_of_so_many(self):
        for thing in ODD_THINGS + ([(INNER, 1)], ((INNER, 1),) * 6):
            if thing not in ((), (1,), ("a",), (None, None)):
                self.refused(thing, None)

    def test_the_first_that_is_none(self):
        good = (INNER, 1)
        wrong = ODD_THINGS + (
            (INNER,),
            (INNER, 1, 1),
            [INNER, 1],
            (list(INNER), 1),
            (INNER, 3),
            (INNER, -1),
            (INNER, True),
            (INNER, None),
            (INNER, whole(1)),
            (INNER, "1"),
            (1, INNER),
            (INNER[:3], 1),
            (INNER + ("e",), 1),
            (INNER[:2], 1),
            ((), 1),
            (INNER[:3] + ("a",), 1),
            (INNER[:3] + ("z",), 1),
            (INNER[:3] + ("A",), 1),
            (INNER[:3] + (1,), 1),
            (INNER[:3] + ([],), 1),
            (("a", "b", "c", "e"), 1),
            # Level and upright in turn, and it touches itself.
            (("a", "c", "b", "d"), 1),
            ("abcd", 1),
        )
        for thing in wrong:
            self.refused((thing,), 0)
            self.refused((good, thing, good, thing), 1)
            self.refused((good,) * 4 + (thing,), 4)
        # An outline that touches itself.
        places = PLACES[:4] + (point("m", 2, 1), point("n", 2, 0), point("o", 1, 0))
        self.refused(((("a", "b", "c", "d", "o", "n", "m"), 1),), 0, places)
        places = tuple(
            point(name, x, y)
            for name, x, y in zip(
                "abcdefgh", (0, 2, 2, 4, 4, 2, 2, 0), (0, 0, 2, 2, 4, 4, 2, 2)
            )
        )
        self.refused((((*"abcdefgh",), 1),), 0, places)

    def test_height_by_the_block(self):
        self.refused(((INNER, 2), (INNER, 3)), 1, block=(4, 3, 2))
        self.assertIsNone(need_features((4, 3, 3), ((INNER, 2), (INNER, 3)), PLACES))

    def test_order(self):
        bad = PLACES[:2] + (("A", whole(1), whole(1)),)
        for call in CALLS:
            self.assertEqual(refusal(self, BadBlock, call, (4, 3), None, bad).place, None)
            found = refusal(self, BadSketch, call, BLOCK, None, bad)
            self.assertEqual((found.part, found.number), ("points", 2))
            found = refusal(self, BadSketch, call, BLOCK, None, list(PLACES))
            self.assertEqual((found.part, found.number), ("points", None))
            found = refusal(self, BadSketch, call, BLOCK, None, PLACES[:1] * 2)
            self.assertEqual((found.part, found.number), ("points", 1))
        many = tuple(point("abcdefghijklm"[k], k, k) for k in range(13))
        found = refusal(self, BadSketch, height_at, BLOCK, None, many, None, None)
        self.assertEqual((found.part, found.number), ("points", None))
        self.assertEqual(refusal(self, BadFeature, height_at, BLOCK, None, PLACES, None, None).number, None)
        # Places are any fractions.
        far = tuple(point(name, x, y) for name, x, y in zip("abcd", (-99999, 99999, 99999, -99999), (-1, -1, 9, 9)))
        self.assertEqual(volume(BLOCK, ((INNER, 1),), far), whole(12))
        close = tuple(point(name, x, y) for name, x, y in zip("abcd", ("1/1000", 1, 1, "1/1000"), (0, 0, 1, 1)))
        self.assertEqual(volume(BLOCK, ((INNER, 1),), close), pair(24 - Fraction(999, 1000)))


class Pieces(unittest.TestCase):
    def test_without_features(self):
        self.assertEqual(lines_of((2, 1, 3), (), ()), (fractions(0, 1, 2), fractions(0, 1)))
        self.assertEqual(
            pieces_of((2, 2, 3), (), ()),
            (
                fractions(0, 0, 1, 1) + (3,),
                fractions(1, 0, 2, 1) + (3,),
                fractions(0, 1, 1, 2) + (3,),
                fractions(1, 1, 2, 2) + (3,),
            ),
        )
        self.assertEqual(volume((2, 2, 3), (), ()), whole(12))

    def test_of_outlines_that_lie_partly_outside(self):
        features = ((OUTER, 1),)
        self.assertEqual(
            lines_of(BLOCK, features, PLACES),
            (fractions(0, "1/2", 1, 2, 3, "7/2", 4), fractions(0, 1, 2, "5/2", 3)),
        )
        found = pieces_of(block=BLOCK, features=features, places=PLACES)
        self.assertEqual(len(found), 24)
        self.assertEqual([piece[4] for piece in found], [2, 1, 1, 1, 1, 2] * 3 + [2] * 6)
        self.assertEqual(found[7], fractions("1/2", 1, 1, 2) + (1,))
        self.assertEqual(volume(block=BLOCK, features=features, places=PLACES), pair(24 - Fraction(15, 2)))

    def test_of_outlines_wholly_outside(self):
        for by in ((4, 0), (-9, 0), (0, 3), (0, -9), (4, 3), (20, -20)):
            places = tuple(
                point(name, x + by[0], y + by[1]) for name, x, y in zip("abcd", (0, 2, 2, 0), (0, 0, 2, 2))
            )
            self.assertEqual(pieces_of(BLOCK, ((INNER, 0),), places), pieces_of(BLOCK, (), ()))
            self.assertEqual(volume(BLOCK, ((INNER, 0),), places), whole(24))
        # Corners between the borders of one axis alone give lines along that one.
        places = tuple(point(name, x, y) for name, x, y in zip("abcd", ("1/2", 2, 2, "1/2"), (-3, -3, -2, -2)))
        wanted = (fractions(0, "1/2", 1, 2, 3, 4), fractions(0, 1, 2, 3))
        self.assertEqual(lines_of(BLOCK, ((INNER, 0),), places), wanted)

    def test_lines_of_places_that_no_feature_has(self):
        self.assertEqual(lines_of(BLOCK, ((INNER, 0),), PLACES), (fractions(0, 1, 2, 3, 4), fractions(0, 1, 2, 3)))

    def test_a_hidden_feature_has_lines_too(self):
        features = ((OUTER, 0), (INNER, 2))
        self.assertEqual(lines_of(BLOCK, features, PLACES), lines_of(BLOCK, ((OUTER, 1),), PLACES))

    def test_the_last_one_counts(self):
        one = ((INNER, 0), (OUTER, 1))
        self.assertEqual(volume(BLOCK, one, PLACES), pair(24 - Fraction(15, 2)))
        other = ((OUTER, 1), (INNER, 0))
        self.assertEqual(volume(BLOCK, other, PLACES), pair(24 - Fraction(15, 2) - 2))
        self.assertEqual(volume(BLOCK, ((OUTER, 1), (INNER, 2)), PLACES), pair(24 - Fraction(15, 2) + 2))

    def test_by_chance(self):
        chance = random.Random(121)
        heights = set()
        for k in range(80):
            body = Body(chance, many=5 if k % 2 else None)
            lines = lines_of(*body.things())
            self.assertEqual([[plain(one) for one in row] for row in lines], body.lines())
            self.assertEqual([type(row) for row in lines], [tuple, tuple])
            pieces = pieces_of(*body.things())
            wanted = body.pieces()
            self.assertEqual(pieces, tuple(tuple(pair(one) for one in piece[:4]) + piece[4:] for piece in wanted))
            heights.add(len({piece[4] for piece in wanted}))
            area = sum((right - left) * (top - low) * height for left, low, right, top, height in wanted)
            self.assertEqual(volume(*body.things()), pair(area))
        self.assertLessEqual({1, 2, 3, 4}, heights)


class Heights(unittest.TestCase):
    def at(self, features, x, y):
        return height_at(BLOCK, features, PLACES, pair(x), pair(y))

    def test_on_borders_and_corners(self):
        features = ((INNER, 1),)
        for x, y, wanted in (
            (2, "3/2", 1),
            ("101/100", "101/100", 1),
            (1, "3/2", 2),
            (2, 1, 2),
            (3, 2, 2),
            (1, 1, 2),
            (0, 0, 2),
            (4, 3, 2),
            (4, 0, 2),
            (2, "199/100", 1),
        ):
            self.assertEqual(self.at(features, x, y), wanted, (x, y))
        features = ((OUTER, 0),)
        for x, y, wanted in (
            (2, 0, 0),
            (1, 1, 0),
            ("1/2", 0, 2),
            ("7/2", 0, 2),
            ("3/4", 0, 0),
            (2, "5/2", 2),
            (2, "249/100", 0),
        ):
            self.assertEqual(self.at(features, x, y), wanted, (x, y))
        self.assertEqual(
            height_at(block=BLOCK, features=features, places=PLACES, x=whole(2), y=whole(0)), 0
        )

    def test_by_chance(self):
        chance = random.Random(122)
        for _ in range(40):
            body = Body(chance)
            pieces = body.pieces()
            xs, ys = body.lines()
            for _ in range(12):
                x, y = chance.choice(xs), chance.choice(ys)
                if chance.random() < 0.5:
                    x = Fraction(chance.randint(0, 12 * body.block[0]), 12)
                if chance.random() < 0.5:
                    y = Fraction(chance.randint(0, 12 * body.block[1]), 12)
                wanted = max(
                    height for left, low, right, top, height in pieces if left <= x <= right and low <= y <= top
                )
                self.assertEqual(height_at(*body.things(), pair(x), pair(y)), wanted)

    def test_refused(self):
        for x, y in (("-1/9", 1), (1, "-1/9"), ("37/9", 1), (1, "28/9"), (-1, -1), (5, 5), (1, 4)):
            refusal(self, OutOfPlace, self.at, (), x, y)
        for thing in ODD_THINGS + (1, 0, (2, 2), (0, 2), (True, 1), (1, 0), [1, 1], whole(1) * 2):
            refusal(self, OutOfPlace, height_at, BLOCK, (), (), thing, whole(1))
            refusal(self, OutOfPlace, height_at, BLOCK, (), (), whole(1), thing)


if __name__ == "__main__":
    unittest.main()
