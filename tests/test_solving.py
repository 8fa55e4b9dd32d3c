import random
import unittest
from fractions import Fraction

from panelworks.errors import BadSketch, Clash, OutOfPlace
from panelworks.fractions import is_fraction
from panelworks.sayings import need_places
from panelworks.solving import linked_groups, moved_square, solved

from tests.helpers import (
    ODD_THINGS,
    clash_number,
    coordinates,
    off,
    pair,
    plain,
    point,
    rank,
    refusal,
    row,
    sketch_from,
    values_at,
    whole,
)

A = point("a", 0, 0)
B = point("b", 4, 1)
C = point("c", 1, "1/3")
ABC = (A, B, C)


class Solved(unittest.TestCase):
    def nearest(self, points, sayings):
        """Look at the places by what makes them the nearest, and tell them."""
        places = solved(points, sayings)
        need_places(places)
        self.assertIs(type(places), tuple)
        self.assertEqual([one[0] for one in places], [one[0] for one in points])
        for _, x, y in places:
            self.assertTrue(is_fraction(x) and is_fraction(y))
        ahead, behind = values_at(points), values_at(places)
        for saying in sayings:
            self.assertEqual(off(saying, behind), 0)
        rows = [row(points, saying)[0] for saying in sayings]
        moves = [behind[name] - ahead[name] for name in coordinates(points)]
        self.assertEqual(rank(rows + [moves]), rank(rows))
        return places

    def test_plain_ones(self):
        self.assertEqual(solved(ABC, (("level", "a", "b", "x"),)), (point("a", 2, 0), point("b", 2, 1), C))
        self.assertEqual(solved(ABC, (("at", "c", "y", -3),)), (A, B, point("c", 1, -3)))
        self.assertEqual(solved(ABC, (("apart", "a", "b", "y", 2),)), (point("a", 0, "-1/2"), point("b", 4, "3/2"), C))
        self.assertEqual(
            solved(ABC, (("middle", "a", "c", "b", "x"),)),
            (point("a", "-1/3", 0), point("b", "11/3", 1), point("c", "5/3", "1/3")),
        )
        self.assertEqual(
            solved((A, B), (("as", "a", "b", "x", "a", "b", "y", 2, 1),)),
            (point("a", "1/5", "-2/5"), point("b", "19/5", "7/5")),
        )
        self.assertEqual(solved(points=ABC, sayings=(("at", "a", "x", 1),)), (point("a", 1, 0), B, C))

    def test_without_sayings(self):
        self.assertEqual(solved(ABC, ()), ABC)
        self.assertEqual(solved((), ()), ())

    def test_what_holds_already_moves_nothing(self):
        sayings = (
            ("at", "a", "x", 0),
            ("apart", "a", "b", "x", 4),
            ("level", "a", "a", "y"),
            ("apart", "b", "b", "x", 0),
        )
        self.assertEqual(self.nearest(ABC, sayings), ABC)

    def test_told_twice(self):
        once = (("level", "a", "b", "x"), ("apart", "a", "c", "y", 5))
        for sayings in (
            once * 2,
            once * 10,
            once + (("level", "b", "a", "x"),),
            once + (("apart", "c", "a", "y", -5),),
        ):
            self.assertEqual(self.nearest(ABC, sayings), solved(ABC, once))

    def test_in_another_order(self):
        sayings = (("level", "a", "b", "x"), ("apart", "a", "c", "y", 5), ("as", "a", "b", "x", "b", "c", "y", 2, 3))
        for other in (sayings[::-1], sayings[1:] + sayings[:1]):
            self.assertEqual(solved(ABC, other), solved(ABC, sayings))

    def test_by_chance(self):
        chance = random.Random(17)
        clashing = moved = 0
        for _ in range(400):
            points, sayings = sketch_from(chance, chance.randint(1, 6), chance.randint(0, 9))
            number = clash_number(points, sayings)
            if number is None:
                moved += self.nearest(points, sayings) != points
            else:
                self.assertEqual(refusal(self, Clash, solved, points, sayings).number, number)
                self.nearest(points, sayings[:number])
                clashing += 1
        self.assertGreater(clashing, 50)
        self.assertGreater(moved, 50)

    def test_twelve_points_and_twenty_sayings(self):
        chance = random.Random(18)
        done = 0
        while done < 4:
            points, sayings = sketch_from(chance, 12, 20)
            points = tuple(
                (name, pair(Fraction(chance.randint(-9999, 9999), chance.randint(1, 99))), y) for name, _, y in points
            )
            sayings = tuple(saying for saying in sayings if saying[0] != "at")
            sayings += tuple(("as", "a", "b", "x", name, "c", "y", 98, 99) for name in ("d", "e", "f", "g"))
            if clash_number(points, sayings[:20]) is None:
                self.nearest(points, sayings[:20])
                done += 1

    def test_the_nearest_of_all(self):
        chance = random.Random(19)
        points, sayings = ABC, (("as", "a", "b", "x", "b", "c", "y", 2, 3), ("middle", "a", "b", "c", "x"))
        least = moved_square(points, solved(points, sayings))
        for _ in range(40):
            there = tuple((name, pair(chance.randint(-4, 4)), pair(chance.randint(-4, 4))) for name in "abc")
            other = solved(there, sayings)
            beside = moved_square(points, other)
            self.assertGreaterEqual(plain(beside), plain(least))
            values, nearest = values_at(other), values_at(solved(points, sayings))
            between = sum((values[name] - nearest[name]) ** 2 for name in values)
            self.assertEqual(plain(beside), plain(least) + between)

    def test_clash(self):
        told = (
            ((("at", "a", "x", 1), ("at", "a", "x", 2)), 1),
            ((("apart", "a", "a", "x", 1),), 0),
            ((("level", "a", "a", "x"), ("apart", "b", "b", "x", -2), ("apart", "a", "a", "x", 1)), 1),
            (
                (
                    ("apart", "a", "b", "x", 1),
                    ("apart", "b", "c", "x", 1),
                    ("at", "c", "y", 0),
                    ("apart", "a", "c", "x", 3),
                    ("at", "c", "y", 1),
                ),
                3,
            ),
            ((("middle", "a", "b", "c", "x"), ("apart", "a", "b", "x", 1), ("apart", "b", "c", "x", 2)), 2),
        )
        for sayings, number in told:
            found = refusal(self, Clash, solved, ABC, sayings)
            self.assertEqual(found.number, number)
            self.assertEqual(clash_number(ABC, sayings), number)

    def test_refused(self):
        clash = (("at", "a", "x", 1), ("at", "a", "x", 2))
        for call in (solved, linked_groups):
            found = refusal(self, BadSketch, call, (A, A), None)
            self.assertEqual((found.part, found.number), ("points", 1))
            found = refusal(self, BadSketch, call, ABC, clash + (("at", "d", "x", 3),))
            self.assertEqual((found.part, found.number), ("sayings", 2))
            for thing in ODD_THINGS:
                if thing != ():
                    self.assertEqual(refusal(self, BadSketch, call, thing, ()).part, "points")
                    self.assertEqual(refusal(self, BadSketch, call, ABC, thing).part, "sayings")


class Groups(unittest.TestCase):
    def test_told(self):
        x = {name: (name, "x") for name in "abc"}
        y = {name: (name, "y") for name in "abc"}
        told = (
            ((), ((x["a"],), (y["a"],), (x["b"],), (y["b"],), (x["c"],), (y["c"],))),
            ((("level", "a", "c", "x"),), ((x["a"], x["c"]), (y["a"],), (x["b"],), (y["b"],), (y["c"],))),
            (
                (("level", "c", "b", "y"), ("level", "b", "a", "y")),
                ((x["a"],), (y["a"], y["b"], y["c"]), (x["b"],), (x["c"],)),
            ),
            (
                (("as", "b", "c", "y", "a", "a", "x", 1, 1),),
                ((x["a"],), (y["a"],), (x["b"],), (y["b"], y["c"]), (x["c"],)),
            ),
            (
                (("as", "a", "b", "x", "b", "c", "y", 1, 1), ("middle", "c", "a", "a", "x")),
                ((x["a"], x["b"], y["b"], x["c"], y["c"]), (y["a"],)),
            ),
            (
                (("at", "a", "x", 1), ("at", "a", "x", 2)),
                ((x["a"],), (y["a"],), (x["b"],), (y["b"],), (x["c"],), (y["c"],)),
            ),
        )
        for sayings, found in told:
            self.assertEqual(linked_groups(ABC, sayings), found)
        self.assertEqual(linked_groups(points=(), sayings=()), ())

    def test_what_cancels_links_nothing(self):
        for saying in (
            ("level", "a", "a", "x"),
            ("as", "a", "b", "x", "a", "b", "x", 3, 3),
            ("middle", "a", "a", "a", "x"),
        ):
            self.assertEqual(len(linked_groups(ABC, (saying,))), 6)

    def test_groups_stand_by_themselves(self):
        chance = random.Random(23)
        for _ in range(100):
            points, sayings = sketch_from(chance, chance.randint(1, 6), chance.randint(0, 6))
            if clash_number(points, sayings) is not None:
                continue
            places = values_at(solved(points, sayings))
            groups = linked_groups(points, sayings)
            self.assertEqual(sorted(name for group in groups for name in group), sorted(coordinates(points)))
            order = coordinates(points)
            self.assertEqual([sorted(group, key=order.index) for group in groups], [list(group) for group in groups])
            self.assertEqual(sorted(groups, key=lambda group: order.index(group[0])), list(groups))
            for group in groups:
                alone = values_at(
                    solved(points, tuple(one for one in sayings if self.names(points, one) & set(group)))
                )
                for name in group:
                    self.assertEqual(alone[name], places[name])

    def names(self, points, saying):
        return {name for name, factor in zip(coordinates(points), row(points, saying)[0]) if factor != 0}


class Moved(unittest.TestCase):
    def test_square(self):
        self.assertEqual(moved_square(ABC, ABC), (0, 1))
        self.assertEqual(moved_square((), ()), (0, 1))
        self.assertEqual(moved_square((A, B), (point("a", 3, -4), point("b", "9/2", 1))), (101, 4))
        self.assertEqual(moved_square(points=(A,), places=(point("a", "1/3", "1/2"),)), (13, 36))
        self.assertEqual(
            moved_square((A,), (("a", whole(10**20), (1, 10**9)),)), pair(Fraction(10**40) + Fraction(1, 10**18))
        )

    def test_refused(self):
        wrong = (
            (),
            (A,),
            (A, B),
            (A, B, C, point("d", 0, 0)),
            (A, C, B),
            (A, B, A),
            [A, B, C],
            (A, B, point("d", 0, 0)),
            (A, B, ("c", 1, 2)),
            (A, B, ("c", (2, 4), (0, 1))),
            (A, B, None),
        )
        for thing in wrong + ODD_THINGS:
            refusal(self, OutOfPlace, moved_square, ABC, thing)
        for points in (None, (A, A), (("a", (10000, 1), (0, 1)),)):
            refusal(self, BadSketch, moved_square, points, None)


if __name__ == "__main__":
    unittest.main()
