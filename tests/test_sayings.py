import random
import unittest

from panelworks import sayings as module
from panelworks.errors import BadSketch, OutOfPlace
from panelworks.sayings import coordinates_of, need_places, need_sketch, row_of, saying_holds

from tests.helpers import (
    ODD_THINGS,
    coordinates,
    off,
    pair,
    point,
    refusal,
    row,
    saying_from,
    sketch_from,
    values_at,
    whole,
)

A = point("a", 0, 0)
B = point("b", 1, 2)
C = point("c", "7/2", -3)
ABC = (A, B, C)
SAYINGS = (
    ("at", "a", "x", 3),
    ("level", "a", "b", "y"),
    ("apart", "a", "b", "x", -999),
    ("middle", "a", "b", "c", "x"),
    ("as", "a", "b", "x", "b", "c", "y", 1, 99),
)

WRONG_POINTS = (
    ("a", (0, 1)),
    ("a", (0, 1), (0, 1), (0, 1)),
    ["a", (0, 1), (0, 1)],
    ("", (0, 1), (0, 1)),
    ("A", (0, 1), (0, 1)),
    ("abcdefghi", (0, 1), (0, 1)),
    (1, (0, 1), (0, 1)),
    ("a", 0, (0, 1)),
    ("a", (0, 1), 0),
    ("a", (2, 4), (0, 1)),
    ("a", (0, 1), (1, -1)),
    ("a", (True, 1), (0, 1)),
    ("a", (0, 1), (0, 1.0)),
    ("a", [0, 1], (0, 1)),
    "abc",
)
TOO_FAR = (("a", (10000, 1), (0, 1)), ("a", (0, 1), (-10000, 1)), ("a", (1, 100), (0, 1)), ("a", (0, 1), (9999, 100)))
WRONG_SAYINGS = (
    ("at",),
    ("at", "a", "x"),
    ("at", "a", "x", 3, 4),
    ["at", "a", "x", 3],
    ("at", "a", "z", 3),
    ("at", "a", 0, 3),
    ("at", "a", "X", 3),
    ("at", "a", "x", 1000),
    ("at", "a", "x", -1000),
    ("at", "a", "x", True),
    ("at", "a", "x", 3.0),
    ("at", "a", "x", (3, 1)),
    ("at", "a", "x", "3"),
    ("at", "d", "x", 3),
    ("at", "", "x", 3),
    ("at", 1, "x", 3),
    ("at", ["a"], "x", 3),
    ("At", "a", "x", 3),
    ("level", "a", "b"),
    ("level", "a", "d", "x"),
    ("level", "d", "a", "x"),
    ("level", "a", "b", "xy"),
    ("level", "a", "b", "x", 0),
    ("apart", "a", "b", "x"),
    ("apart", "a", "b", "x", None),
    ("apart", "a", "b", "x", 1000),
    ("apart", "a", "b", ["x"], 1),
    ("middle", "a", "b", "x"),
    ("middle", "a", "b", "d", "x"),
    ("middle", "a", "d", "b", "x"),
    ("middle", "a", "b", "c", "x", 0),
    ("as", "a", "b", "x", "b", "c", "y", 1),
    ("as", "a", "b", "x", "b", "c", "y", 0, 1),
    ("as", "a", "b", "x", "b", "c", "y", 1, 0),
    ("as", "a", "b", "x", "b", "c", "y", 100, 1),
    ("as", "a", "b", "x", "b", "c", "y", 1, 100),
    ("as", "a", "b", "x", "b", "c", "y", -1, 1),
    ("as", "a", "b", "x", "b", "c", "y", True, 1),
    ("as", "a", "b", "x", "b", "d", "y", 1, 1),
    ("as", "a", "b", "x", "d", "b", "y", 1, 1),
    ("as", "a", "b", "z", "b", "c", "y", 1, 1),
    ("as", "a", "b", "x", "b", "c", "z", 1, 1),
    ("near", "a", "b", "x"),
    (None, "a", "x", 3),
    (["at"], "a", "x", 3),
    (("at",), "a", "x", 3),
    "at a x 3",
)


class Sketches(unittest.TestCase):
    def wrong(self, part, number, call, *things):
        found = refusal(self, BadSketch, call, *things)
        self.assertEqual((found.part, found.number), (part, number), things)

    def test_axes(self):
        self.assertEqual(module.AXES, ("x", "y"))

    def test_let_by(self):
        for points in (
            (),
            ABC,
            tuple(point(chr(97 + k), 0, k) for k in range(12)),
            (point("a", 9999, -9999),),
            (("a", (9999, 98), (-1, 99)),),
        ):
            self.assertIsNone(need_sketch(points))
            self.assertIsNone(need_sketch(points, ()))
        self.assertIsNone(need_sketch(ABC, SAYINGS))
        self.assertIsNone(need_sketch(ABC, SAYINGS * 4))
        self.assertIsNone(need_sketch(points=ABC, sayings=SAYINGS))
        for saying in (
            ("at", "a", "x", 999),
            ("at", "a", "x", -999),
            ("level", "a", "a", "x"),
            ("middle", "a", "a", "a", "y"),
            ("as", "a", "a", "x", "a", "a", "x", 99, 1),
        ):
            self.assertIsNone(need_sketch(ABC, (saying,)))

    def test_no_points(self):
        for thing in (None, [A], "a", 1, {}, [], True, {"a": 1}, tuple(point(chr(97 + k), 0, 0) for k in range(13))):
            self.wrong("points", None, need_sketch, thing)
            self.wrong("points", None, need_places, thing)

    def test_the_first_point_that_cant_be(self):
        for thing in WRONG_POINTS + ODD_THINGS:
            for call in (need_sketch, need_places):
                self.wrong("points", 0, call, (thing,))
                self.wrong("points", 2, call, (C, B, thing, thing))
        for call in (need_sketch, need_places):
            self.wrong("points", 2, call, (A, B, point("a", 5, 5)))
            self.wrong("points", 1, call, (A, A, None))

    def test_points_have_limits_that_places_dont(self):
        for thing in TOO_FAR:
            self.wrong("points", 1, need_sketch, (B, thing))
            self.assertIsNone(need_places((B, thing)))
        self.assertIsNone(need_places(places=(("a", (10**30, 7), (1, 10**20)),)))
        self.assertIsNone(need_places(()))

    def test_no_sayings(self):
        for thing in (None, [], "at", 1, SAYINGS * 4 + SAYINGS[:1], {}, [SAYINGS[0]]):
            self.wrong("sayings", None, need_sketch, ABC, thing)

    def test_the_first_saying_that_cant_be(self):
        for thing in WRONG_SAYINGS + ODD_THINGS:
            self.wrong("sayings", 0, need_sketch, ABC, (thing,))
            self.wrong("sayings", 2, need_sketch, ABC, SAYINGS[:2] + (thing, thing))
        self.wrong("sayings", 0, need_sketch, (), SAYINGS)

    def test_points_ahead_of_sayings(self):
        self.wrong("points", 1, need_sketch, (A, None), None)
        self.wrong("points", None, need_sketch, [A], (None,))


class Coordinates(unittest.TestCase):
    def test_in_the_order_of_points(self):
        self.assertEqual(coordinates_of(()), [])
        self.assertEqual(coordinates_of((B, A)), [("b", "x"), ("b", "y"), ("a", "x"), ("a", "y")])
        self.assertEqual(coordinates_of(points=(A,)), [("a", "x"), ("a", "y")])

    def test_the_askers_own(self):
        coordinates_of(ABC).clear()
        self.assertEqual(len(coordinates_of(ABC)), 6)

    def test_refused(self):
        for points in (None, [A], (A, A), (A, None)) + tuple((one,) for one in TOO_FAR):
            refusal(self, BadSketch, coordinates_of, points)


class Rows(unittest.TestCase):
    def test_of_each_sort(self):
        told = (
            (((("a", "x"), 1),), 3),
            (((("a", "y"), -1), (("b", "y"), 1)), 0),
            (((("a", "x"), -1), (("b", "x"), 1)), -999),
            (((("a", "x"), -1), (("b", "x"), 2), (("c", "x"), -1)), 0),
            (((("a", "x"), -99), (("b", "x"), 99), (("b", "y"), 1), (("c", "y"), -1)), 0),
        )
        for saying, found in zip(SAYINGS, told):
            self.assertEqual(row_of(ABC, saying), found)
        self.assertEqual(row_of(points=ABC, saying=SAYINGS[0]), told[0])

    def test_terms_that_cancel(self):
        told = (
            (("level", "a", "a", "x"), (), 0),
            (("apart", "b", "b", "y", 7), (), 7),
            (("middle", "a", "a", "a", "x"), (), 0),
            (("middle", "a", "b", "a", "x"), ((("a", "x"), -2), (("b", "x"), 2)), 0),
            (("middle", "a", "a", "b", "x"), ((("a", "x"), 1), (("b", "x"), -1)), 0),
            (("as", "a", "b", "x", "a", "b", "x", 3, 3), (), 0),
            (("as", "a", "b", "x", "a", "b", "x", 2, 3), ((("a", "x"), -1), (("b", "x"), 1)), 0),
            (("as", "a", "b", "x", "b", "a", "x", 2, 3), ((("a", "x"), -5), (("b", "x"), 5)), 0),
            (("as", "a", "a", "x", "b", "c", "y", 2, 3), ((("b", "y"), 2), (("c", "y"), -2)), 0),
            (("as", "c", "b", "y", "a", "b", "y", 5, 5), ((("a", "y"), 5), (("c", "y"), -5)), 0),
        )
        for saying, terms, number in told:
            self.assertEqual(row_of(ABC, saying), (terms, number))

    def test_terms_stand_in_order(self):
        self.assertEqual(
            row_of((C, B, A), ("as", "a", "b", "x", "b", "c", "y", 2, 3)),
            (((("c", "y"), -2), (("b", "x"), 3), (("b", "y"), 2), (("a", "x"), -3)), 0),
        )

    def test_by_trying(self):
        chance = random.Random(5)
        for _ in range(300):
            points, sayings = sketch_from(chance, chance.randint(1, 5), 1)
            factors, number = row(points, sayings[0])
            terms = tuple((name, one) for name, one in zip(coordinates(points), factors) if one != 0)
            self.assertEqual(row_of(points, sayings[0]), (terms, number))

    def test_refused(self):
        for thing in WRONG_SAYINGS + ODD_THINGS:
            refusal(self, OutOfPlace, row_of, ABC, thing)
        for points in (None, (A, A), (A, None), TOO_FAR[:1]):
            refusal(self, BadSketch, row_of, points, SAYINGS[0])
            refusal(self, BadSketch, row_of, points, None)


class Holding(unittest.TestCase):
    def test_by_trying(self):
        chance = random.Random(6)
        held = 0
        for _ in range(600):
            names = ["a", "b", "c"]
            places = tuple((name, pair(chance.randint(-2, 2)), pair(chance.randint(-1, 1))) for name in names)
            saying = saying_from(chance, names, 2)
            wanted = off(saying, values_at(places)) == 0
            self.assertIs(saying_holds(places, saying), wanted)
            held += wanted
        self.assertGreater(held, 50)

    def test_off_whole_numbers(self):
        places = (point("a", "1/3", "10/7"), point("b", "4/3", "1/100000"), point("c", "7/3", "99999/7"))
        for saying, wanted in (
            (("at", "a", "x", 0), False),
            (("apart", "a", "b", "x", 1), True),
            (("apart", "b", "a", "x", 1), False),
            (("apart", "b", "a", "x", -1), True),
            (("middle", "a", "b", "c", "x"), True),
            (("middle", "b", "a", "c", "x"), False),
            (("as", "a", "c", "x", "a", "b", "x", 2, 1), True),
            (("as", "a", "c", "x", "a", "b", "x", 1, 2), False),
            (("level", "a", "b", "y"), False),
        ):
            self.assertIs(saying_holds(places, saying), wanted, saying)

    def test_without_terms(self):
        self.assertIs(saying_holds(ABC, ("level", "a", "a", "x")), True)
        self.assertIs(saying_holds(ABC, ("apart", "a", "a", "x", 0)), True)
        self.assertIs(saying_holds(ABC, ("apart", "a", "a", "x", 1)), False)

    def test_places_may_be_far_off(self):
        self.assertIs(saying_holds(places=(("a", whole(10**9), (1, 1000)),), saying=("at", "a", "x", 3)), False)

    def test_refused(self):
        for places in (None, [A], (A, A), (A, ("b", (2, 4), (0, 1)))):
            found = refusal(self, BadSketch, saying_holds, places, None)
            self.assertEqual(found.part, "points")
        for thing in WRONG_SAYINGS + ODD_THINGS:
            refusal(self, OutOfPlace, saying_holds, ABC, thing)


if __name__ == "__main__":
    unittest.main()
