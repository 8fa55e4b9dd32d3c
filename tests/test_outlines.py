import random
import unittest
from fractions import Fraction

from panelworks.errors import BadOutline, BadSketch, NoPoint
from panelworks.outlines import (
    edges_of,
    is_fair,
    loop_area,
    loop_length,
    loop_of,
    need_loop,
    need_outline,
    plain_loop,
    turns_of,
)

from tests.helpers import ODD_THINGS, loop_from, pair, plain, point, refusal, spots, whole

SQUARE = spots(0, 0, 2, 0, 2, 2, 0, 2)
ELL = spots(0, 0, 3, 0, 3, 1, 2, 1, 2, 2, 0, 2)
# Begins upright, at an inner corner, and goes the other way round.
TEE = spots(2, 1, 2, 3, 1, 3, 1, 1, 0, 1, 0, 0, 3, 0, 3, 1)
TWELVE = spots(0, 0, 1, 0, 1, 1, 2, 1, 2, 2, 3, 2, 3, 3, 4, 3, 4, 4, 5, 4, 5, 5, 0, 5)

NO_LOOPS = (
    list(SQUARE),
    SQUARE[:3],
    SQUARE[:2],
    (),
    SQUARE + SQUARE[:1],
    TWELVE + spots(0, 4, -1, 4),
    TWELVE[:11],
    SQUARE[:3] + (None,),
    SQUARE[:3] + ((0, 2),),
    SQUARE[:3] + ((whole(0),),),
    SQUARE[:3] + ((whole(0), whole(2), whole(0)),),
    SQUARE[:3] + ([whole(0), whole(2)],),
    SQUARE[:3] + ((whole(0), (2, 2)),),
    SQUARE[:3] + (((True, 1), whole(2)),),
    "abcd",
    (1, 2, 3, 4),
)
UNFAIR = (
    (spots(0, 0, 1, 1, 0, 1, 0, 0), 0),
    (spots(0, 0, 0, 0, 1, 0, 1, 1), 0),
    (spots(0, 0, 2, 0, 2, 2, 1, 3), 2),
    (spots(0, 0, 2, 0, 2, 2, 2, 2), 2),
    (spots(0, 0, 1, 0, 2, 0, 2, 2, 0, 2, 0, 1), 1),
    (spots(0, 0, 2, 0, 2, 1, 2, 2, 0, 2, 0, 1), 2),
    (spots(0, 0, 2, 0, 2, 2, 0, 1), 2),
    (spots(0, 0, 2, 0, 2, 2, 1, 2), 3),
    (spots(0, 0, 2, 0, 1, 0, 1, 1), 1),
    # Kinds go ahead of what edges have in common.
    (spots(0, 0, 2, 0, 2, 2, 1, 2, 1, -1, 0, 3), 4),
    # An edge through another one, and others that have a spot in common or no length.
    (spots(0, 0, 4, 0, 4, 2, 1, 2, 1, -1, 0, -1), 0),
    (spots(0, 0, 4, 0, 4, 2, 1, 2, 1, 0, 0, 0), 5),
    (spots(0, 0, 4, 0, 4, 2, 0, 2, 0, 1, -1, 1, -1, 0, 0, 0), 7),
    (spots(0, 0, 2, 0, 2, 2, 4, 2, 4, 1, 1, 1, 1, 3, 0, 3), 1),
    (spots(1, 0, 1, 3, 4, 3, 4, 2, 2, 2, 2, 1, 4, 1, 4, 2, 5, 2, 5, 0), 2),
)
TOUCHING = (
    # Two edges that meet at a corner alone, that share a part, and one that ends on another.
    (spots(0, 0, 2, 0, 2, 2, 4, 2, 4, 4, 2, 4, 2, 2, 0, 2), 1),
    (spots(0, 0, 4, 0, 4, 4, 2, 4, 2, 0, 1, 0, 1, 4, 0, 4), 0),
    (spots(0, 0, 4, 0, 4, 3, 2, 3, 2, 0, 1, 0, 1, 3, 0, 3), 0),
    (spots(0, 0, 5, 0, 5, 3, 3, 3, 3, 1, 5, 1, 5, 4, 0, 4), 1),
)


class Fair(unittest.TestCase):
    def test_let_by(self):
        for loop in (SQUARE, ELL, TEE, TWELVE):
            for start in range(len(loop)):
                turned = loop[start:] + loop[:start]
                for one in (turned, turned[::-1]):
                    self.assertEqual(need_loop(one), one)
                    self.assertIs(is_fair(one), True)
        self.assertEqual(need_loop(loop=ELL), ELL)
        self.assertIs(is_fair(loop=ELL), True)

    def test_by_chance(self):
        chance = random.Random(61)
        for _ in range(100):
            self.assertIs(is_fair(loop_from(chance)[0]), True)

    def test_no_loops(self):
        for thing in NO_LOOPS + ODD_THINGS:
            self.assertIsNone(refusal(self, BadOutline, need_loop, thing).number)
            self.assertIs(is_fair(thing), False)

    def test_the_first_edge_that_cant_be(self):
        for loop, number in UNFAIR + TOUCHING:
            self.assertEqual(refusal(self, BadOutline, need_loop, loop).number, number, loop)
            self.assertIs(is_fair(loop), False)

    def test_edges_by_an_own_look(self):
        for loop, _ in UNFAIR + TOUCHING:
            self.assertEqual(refusal(self, BadOutline, need_loop, loop).number, first_wrong(loop), loop)
        chance = random.Random(62)
        unfair = 0
        for _ in range(1500):
            many = chance.choice([4, 6, 8, 10])
            xs = [chance.randint(0, 4) for _ in range(many // 2)]
            ys = [chance.randint(0, 4) for _ in range(many // 2)]
            loop = []
            for k in range(many // 2):
                loop += [(whole(xs[k]), whole(ys[k])), (whole(xs[(k + 1) % len(xs)]), whole(ys[k]))]
            loop = tuple(loop)
            wanted = first_wrong(loop)
            self.assertIs(is_fair(loop), wanted is None)
            if wanted is not None:
                unfair += 1
                self.assertEqual(refusal(self, BadOutline, need_loop, loop).number, wanted)
        self.assertTrue(50 < unfair < 1490)

    def test_all_functions_refuse_it(self):
        for call in (edges_of, turns_of, plain_loop, loop_area, loop_length):
            for thing in NO_LOOPS + ODD_THINGS:
                self.assertIsNone(refusal(self, BadOutline, call, thing).number)
            for loop, number in TOUCHING:
                self.assertEqual(refusal(self, BadOutline, call, loop).number, number)


def first_wrong(loop):
    """The number of the first edge that can't be, by all the spots of quarters that an edge has."""
    edges = list(zip(loop, loop[1:] + loop[:1]))
    ahead = None
    for number, (start, end) in enumerate(edges):
        kind = (start[0] == end[0], start[1] == end[1])
        if kind in ((True, True), (False, False), ahead):
            return number
        ahead = kind
    there = [quarters(start, end) for start, end in edges]
    for number, one in enumerate(there):
        for other in range(len(edges)):
            if (number - other) % len(edges) not in (0, 1, len(edges) - 1) and one & there[other]:
                return number
    return None


def quarters(start, end):
    (x0, y0), (x1, y1) = ([int(4 * plain(one)) for one in spot] for spot in (start, end))
    return {(x, y) for x in range(min(x0, x1), max(x0, x1) + 1) for y in range(min(y0, y1), max(y0, y1) + 1)}


class Outlines(unittest.TestCase):
    PLACES = (
        point("a", 0, 0),
        point("b", 2, 0),
        point("c", 2, 2),
        point("d", 0, 2),
        point("e", 1, 0),
        point("far", "1/100000", 10**9),
    )

    def test_loop_of(self):
        self.assertEqual(loop_of(self.PLACES, ("a", "b", "c", "d")), SQUARE)
        self.assertEqual(loop_of(places=self.PLACES, names=("d", "c", "b", "a")), SQUARE[::-1])
        # Fair or not.
        self.assertEqual(loop_of(self.PLACES, ("a", "c", "b", "d")), (SQUARE[0], SQUARE[2], SQUARE[1], SQUARE[3]))
        self.assertEqual(loop_of(self.PLACES, ("a", "b", "c", "far"))[3], (pair("1/100000"), whole(10**9)))

    def test_need_outline(self):
        self.assertEqual(need_outline(self.PLACES, ("a", "b", "c", "d")), SQUARE)
        self.assertEqual(need_outline(places=self.PLACES, names=("c", "d", "a", "b")), SQUARE[2:] + SQUARE[:2])
        for names, number in ((("a", "c", "b", "d"), 0), (("a", "e", "b", "c"), 1), (("a", "b", "c", "e"), 2)):
            self.assertEqual(refusal(self, BadOutline, need_outline, self.PLACES, names).number, number)

    def test_refusals_in_their_order(self):
        for call in (loop_of, need_outline):
            for places in (None, [self.PLACES[0]], self.PLACES[:1] * 2, (("a", 0, 0),)):
                self.assertEqual(refusal(self, BadSketch, call, places, None).part, "points")
            wrong = (
                ("a", "b", "c"),
                ("a", "b", "c", "d", "e"),
                ["a", "b", "c", "d"],
                ("a", "b", "c", "a"),
                ("a", "b", "c", ""),
                ("a", "b", "c", "A"),
                ("a", "b", "c", None),
                ("a", "b", "c", ["d"]),
                ("a", "b"),
                "abcd",
                ("z", "z", "a", "b"),
                ("z", "b", "c"),
                ("z", "y", "x", 1),
                tuple("abcdefghijklmn"),
                tuple("abcdefghijk"),
            )
            for names in wrong + ODD_THINGS:
                self.assertIsNone(refusal(self, BadOutline, call, self.PLACES, names).number)
            self.assertEqual(refusal(self, NoPoint, call, self.PLACES, ("a", "z", "c", "y")).name, "z")
            self.assertEqual(refusal(self, NoPoint, call, (), tuple("abcdefghijkl")).name, "a")
        # Names that aren't there go ahead of edges that can't be.
        self.assertEqual(refusal(self, NoPoint, need_outline, self.PLACES, ("a", "c", "b", "y")).name, "y")


class Told(unittest.TestCase):
    def test_edges(self):
        self.assertEqual(
            edges_of(SQUARE),
            [
                ("level", SQUARE[0], SQUARE[1]),
                ("upright", SQUARE[1], SQUARE[2]),
                ("level", SQUARE[2], SQUARE[3]),
                ("upright", SQUARE[3], SQUARE[0]),
            ],
        )
        self.assertEqual([kind for kind, _, _ in edges_of(loop=TEE)], ["upright", "level"] * 4)
        edges_of(SQUARE).clear()
        self.assertEqual(len(edges_of(SQUARE)), 4)

    def test_turns(self):
        for loop, turns in ((SQUARE, (4, 0)), (ELL, (5, 1)), (TEE, (6, 2)), (TWELVE, (8, 4))):
            for start in range(len(loop)):
                turned = loop[start:] + loop[:start]
                self.assertEqual(turns_of(turned), turns)
                self.assertEqual(turns_of(turned[::-1]), turns[::-1])
        self.assertEqual(turns_of(loop=SQUARE), (4, 0))

    def test_plain_loop(self):
        self.assertEqual(plain_loop(TEE), spots(0, 0, 3, 0, 3, 1, 2, 1, 2, 3, 1, 3, 1, 1, 0, 1))
        for loop in (SQUARE, ELL, TWELVE):
            for start in range(len(loop)):
                turned = loop[start:] + loop[:start]
                self.assertEqual(plain_loop(turned), loop)
                self.assertEqual(plain_loop(turned[::-1]), loop)
        self.assertEqual(plain_loop(loop=SQUARE), SQUARE)

    def test_plain_loop_by_chance(self):
        chance = random.Random(63)
        for _ in range(80):
            loop = loop_from(chance)[0]
            found = plain_loop(loop)
            sides = [frozenset(edge[1:]) for edge in edges_of(loop)]
            self.assertEqual({frozenset(edge[1:]) for edge in edges_of(found)}, set(sides))
            self.assertEqual(found[0], min(found, key=lambda spot: (plain(spot[0]), plain(spot[1]))))
            left, right = turns_of(found)
            self.assertEqual(left, right + 4)
            kind, start, end = edges_of(found)[0]
            self.assertEqual((kind, plain(start[0]) < plain(end[0])), ("level", True))
            self.assertEqual(plain_loop(found), found)
            self.assertIn(turns_of(loop), ((left, right), (right, left)))

    def test_area_and_length(self):
        self.assertEqual(
            [loop_area(loop) for loop in (SQUARE, ELL, TEE, TWELVE)], [whole(4), whole(5), whole(5), whole(15)]
        )
        self.assertEqual(
            [loop_length(loop) for loop in (SQUARE, ELL, TEE, TWELVE)], [whole(8), whole(10), whole(12), whole(20)]
        )
        small = tuple((pair(Fraction(plain(x), 3)), pair(plain(y) / 2 - 7)) for x, y in ELL)
        self.assertEqual((loop_area(loop=small), loop_length(loop=small)), (pair("5/6"), pair(4)))

    def test_area_and_length_by_cells(self):
        chance = random.Random(64)
        for _ in range(80):
            loop, cells, xs, ys = loop_from(chance)
            area = length = Fraction(0)
            for x, y in cells:
                wide, long = plain(xs[x + 1]) - plain(xs[x]), plain(ys[y + 1]) - plain(ys[y])
                area += wide * long
                length += sum(wide for up in (1, -1) if (x, y + up) not in cells)
                length += sum(long for on in (1, -1) if (x + on, y) not in cells)
            self.assertEqual(loop_area(loop), pair(area))
            self.assertEqual(loop_length(loop), pair(length))
            self.assertEqual(loop_area(loop[::-1]), pair(area))


if __name__ == "__main__":
    unittest.main()
