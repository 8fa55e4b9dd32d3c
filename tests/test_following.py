import random
import unittest

from panelworks.errors import BadSketch, Clash, OutOfPlace
from panelworks.following import fixed_at, free_ways, word_beside

from tests.helpers import (
    ODD_THINGS,
    clash_number,
    coordinates,
    plain,
    point,
    rank,
    refusal,
    row,
    saying_from,
    sketch_from,
)

A = point("a", 0, 0)
B = point("b", 4, 1)
C = point("c", 1, "1/3")
ABC = (A, B, C)
SAYINGS = (
    ("at", "a", "x", 3),
    ("apart", "a", "b", "x", 4),
    ("as", "b", "c", "x", "a", "b", "x", 1, 3),
    ("level", "a", "c", "y"),
)
CLASH = SAYINGS + (("at", "b", "x", 8), ("at", "c", "y", 1))
AT_CLASH = 4


def word_by_ranks(points, sayings, saying):
    rows = [row(points, one) for one in sayings]
    line, number = row(points, saying)
    if rank([one for one, _ in rows] + [line]) > rank([one for one, _ in rows]):
        return "free"
    both = [one + [other] for one, other in rows]
    return "follows" if rank(both + [line + [number]]) == rank(both) else "clashes"


class Words(unittest.TestCase):
    def test_told(self):
        told = (
            (("at", "a", "x", 3), "follows"),
            (("at", "b", "x", 7), "follows"),
            (("at", "a", "x", 4), "clashes"),
            (("apart", "b", "a", "x", -4), "follows"),
            (("apart", "a", "b", "x", 5), "clashes"),
            (("level", "a", "b", "x"), "clashes"),
            (("level", "c", "a", "y"), "follows"),
            (("apart", "a", "c", "y", 1), "clashes"),
            (("at", "a", "y", 0), "free"),
            (("level", "a", "b", "y"), "free"),
            (("level", "a", "a", "y"), "follows"),
            (("apart", "a", "a", "y", 1), "clashes"),
            (("as", "b", "c", "x", "a", "b", "x", 2, 6), "follows"),
            (("as", "a", "c", "y", "a", "b", "y", 1, 1), "free"),
            (("as", "a", "c", "y", "a", "b", "x", 1, 1), "clashes"),
            (("middle", "a", "b", "c", "x"), "clashes"),
        )
        for saying, word in told:
            self.assertEqual(word_beside(ABC, SAYINGS, saying), word, saying)
            self.assertEqual(word_by_ranks(ABC, SAYINGS, saying), word, saying)
        self.assertEqual(word_beside(points=ABC, sayings=(), saying=("at", "a", "x", 3)), "free")

    def test_beside_none(self):
        for saying, word in (
            (("at", "a", "x", 3), "free"),
            (("level", "a", "a", "x"), "follows"),
            (("apart", "a", "a", "x", 2), "clashes"),
            (("apart", "a", "a", "x", 0), "follows"),
        ):
            self.assertEqual(word_beside(ABC, (), saying), word)

    def test_beside_twenty(self):
        names = "abcdefghijk"
        points = tuple(point(name, k, k) for k, name in enumerate(names))
        chain = tuple(("apart", one, other, "x", 2) for one, other in zip(names, names[1:]))
        sayings = chain + tuple(("level", one, other, "y") for one, other in zip(names, names[1:]))
        self.assertEqual(len(sayings), 20)
        self.assertEqual(word_beside(points, sayings, ("apart", "a", "k", "x", 20)), "follows")
        self.assertEqual(word_beside(points, sayings, ("apart", "a", "k", "x", 19)), "clashes")
        self.assertEqual(word_beside(points, sayings, ("at", "k", "y", 19)), "free")
        self.assertEqual(free_ways(points, sayings), 2)

    def test_by_chance(self):
        chance = random.Random(41)
        found = []
        while len(found) < 500:
            points, sayings = sketch_from(chance, chance.randint(1, 4), chance.randint(0, 8), 2)
            if clash_number(points, sayings) is None:
                saying = saying_from(chance, [one[0] for one in points], 2)
                found.append(word_beside(points, sayings, saying))
                self.assertEqual(found[-1], word_by_ranks(points, sayings, saying))
        self.assertGreater(min(found.count(word) for word in ("follows", "clashes", "free")), 40)


class Fixed(unittest.TestCase):
    def test_told(self):
        told = (
            ("a", "x", (3, 1)),
            ("b", "x", (7, 1)),
            ("c", "x", (25, 3)),
            ("a", "y", None),
            ("b", "y", None),
            ("c", "y", None),
        )
        for name, axis, found in told:
            self.assertEqual(fixed_at(ABC, SAYINGS, name, axis), found)
        self.assertIsNone(fixed_at(points=ABC, sayings=(), name="a", axis="x"))
        self.assertEqual(fixed_at(ABC, SAYINGS + (("at", "c", "y", -2),), "a", "y"), (-2, 1))

    def test_by_two_together(self):
        # Twice the first is the second, and they are five apart.
        sayings = (("at", "c", "x", 0), ("as", "c", "b", "x", "c", "a", "x", 2, 1), ("apart", "a", "b", "x", 5))
        self.assertEqual(fixed_at(ABC, sayings, "a", "x"), (5, 1))
        self.assertEqual(fixed_at(ABC, sayings, "b", "x"), (10, 1))

    def test_by_ranks(self):
        chance = random.Random(42)
        fixed = 0
        for _ in range(200):
            points, sayings = sketch_from(chance, chance.randint(1, 4), chance.randint(0, 8), 2)
            if clash_number(points, sayings) is not None:
                continue
            lines = [row(points, one)[0] for one in sayings]
            for k, (name, axis) in enumerate(coordinates(points)):
                unit = [int(k == other) for other in range(len(coordinates(points)))]
                found = fixed_at(points, sayings, name, axis)
                self.assertIs(found is not None, rank(lines + [unit]) == rank(lines))
                if found is not None:
                    fixed += 1
                    both = [line + [row(points, one)[1]] for line, one in zip(lines, sayings)]
                    self.assertEqual(rank(both + [unit + [plain(found)]]), rank(both))
        self.assertGreater(fixed, 50)


class Free(unittest.TestCase):
    def test_told(self):
        self.assertEqual(free_ways((), ()), 0)
        self.assertEqual(free_ways(ABC, ()), 6)
        self.assertEqual(free_ways(points=ABC, sayings=SAYINGS), 2)
        self.assertEqual(free_ways(ABC, SAYINGS * 2), 2)
        self.assertEqual(free_ways(ABC, (("level", "a", "a", "x"),)), 6)

    def test_by_ranks(self):
        chance = random.Random(43)
        for _ in range(200):
            points, sayings = sketch_from(chance, chance.randint(1, 5), chance.randint(0, 9), 2)
            if clash_number(points, sayings) is None:
                wanted = 2 * len(points) - rank([row(points, one)[0] for one in sayings])
                self.assertEqual(free_ways(points, sayings), wanted)


class Refused(unittest.TestCase):
    def test_sketches_ahead(self):
        for call, things in ((word_beside, (None,)), (fixed_at, (None, None)), (free_ways, ())):
            for points in (None, (A, A), [A]):
                self.assertEqual(refusal(self, BadSketch, call, points, CLASH, *things).part, "points")
            found = refusal(self, BadSketch, call, ABC, CLASH + (("at", "d", "x", 0),), *things)
            self.assertEqual((found.part, found.number), ("sayings", 6))

    def test_clash_ahead_of_what_is_asked_for(self):
        for call, things in (
            (word_beside, (None,)),
            (word_beside, (("at", "a", "x", 3),)),
            (fixed_at, (None, None)),
            (fixed_at, ("a", "x")),
            (free_ways, ()),
        ):
            self.assertEqual(refusal(self, Clash, call, ABC, CLASH, *things).number, AT_CLASH)

    def test_out_of_place(self):
        for thing in ODD_THINGS + (
            ("at", "d", "x", 3),
            ("at", "a", "x", 1000),
            ["at", "a", "x", 3],
            ("at", "a", "z", 3),
        ):
            refusal(self, OutOfPlace, word_beside, ABC, SAYINGS, thing)
        for thing in ODD_THINGS + ("d", "A", ("a", "x")):
            refusal(self, OutOfPlace, fixed_at, ABC, SAYINGS, thing, "x")
        for thing in tuple(one for one in ODD_THINGS if one != "x") + ("z", "X", "xy", 0):
            refusal(self, OutOfPlace, fixed_at, ABC, SAYINGS, "a", thing)


if __name__ == "__main__":
    unittest.main()
