import random
import unittest

from panelworks.errors import BadPaper, BadSketch, Clash, OutOfPlace
from panelworks.following import free_ways, word_beside
from panelworks.sketchpaper import check_near, check_ways, check_word, near_paper, ways_paper, word_paper
from panelworks.solving import solved

from tests.helpers import (
    ODD_THINGS,
    clash_number,
    coordinates,
    off,
    pair,
    plain,
    point,
    refusal,
    row,
    saying_from,
    sketch_from,
    values_at,
    whole,
)

A = point("a", 0, 0)
B = point("b", 4, 1)
C = point("c", 1, "1/3")
ABC = (A, B, C)
SAYINGS = (("level", "a", "b", "x"), ("apart", "a", "c", "y", 1), ("level", "b", "a", "x"))
PLACES = (point("a", 2, "-1/3"), point("b", 2, 1), point("c", 1, "2/3"))
MULTIPLIERS = (whole(2), pair("-1/3"), whole(0))
NEAR = (PLACES, MULTIPLIERS)
CLASH = (("at", "a", "x", 1), ("at", "a", "x", 2), ("at", "b", "y", 2))
NOUGHT = whole(0)
ONE = whole(1)
WRONG_FRACTIONS = (None, 1, (2, 4), (1, 0), "1", [1, 2], (True, 1), (0, 2), (1, 2, 3))


def sketches(seed, many, numbers=2):
    """Sketches by chance without a clash."""
    chance = random.Random(seed)
    found = []
    while len(found) < many:
        points, sayings = sketch_from(chance, chance.randint(1, 5), chance.randint(0, 8), numbers)
        if clash_number(points, sayings) is None:
            found.append((points, sayings, saying_from(chance, [one[0] for one in points], numbers)))
    return found


def summed(points, sayings, multipliers):
    """What comes of each coordinate, and of the numbers, by so much of each saying."""
    rows = [row(points, one) for one in sayings]
    factors = [sum(plain(by) * line[k] for by, (line, _) in zip(multipliers, rows)) for k in range(2 * len(points))]
    return factors, sum(plain(by) * number for by, (_, number) in zip(multipliers, rows))


def moved(points, saying, motion):
    """What a saying's terms come to by a motion."""
    values = values_at(motion)
    return sum(factor * values[name] for name, factor in zip(coordinates(points), row(points, saying)[0]))


def exchanged(row, place, thing):
    return row[:place] + (thing,) + row[place + 1 :]


class Near(unittest.TestCase):
    def wrong(self, place, paper, sayings=SAYINGS):
        self.assertEqual(refusal(self, BadPaper, check_near, ABC, sayings, paper).place, place, paper)

    def test_told_papers(self):
        for points, sayings, _ in sketches(51, 150):
            places, multipliers = near_paper(points, sayings)
            self.assertEqual(places, solved(points, sayings))
            self.assertEqual(len(multipliers), len(sayings))
            ahead, behind = values_at(points), values_at(places)
            factors, _ = summed(points, sayings, multipliers)
            self.assertEqual([ahead[name] - behind[name] for name in coordinates(points)], factors)
            self.assertEqual(check_near(points, sayings, (places, multipliers)), places)
        self.assertEqual(near_paper((), ()), ((), ()))

    def test_any_right_paper_is_let_by(self):
        self.assertEqual(check_near(ABC, SAYINGS, NEAR), PLACES)
        self.assertEqual(check_near(points=ABC, sayings=SAYINGS, paper=NEAR), PLACES)
        for by in ("1/7", "-3", "2"):
            third = pair(by)
            self.assertEqual(check_near(ABC, SAYINGS, (PLACES, (pair(2 + plain(third)), pair("-1/3"), third))), PLACES)
        self.assertEqual(check_near(ABC, (), (ABC, ())), ABC)
        self.assertEqual(check_near((), (), ((), ())), ())
        still = (("level", "a", "a", "x"),)
        self.assertEqual(check_near(ABC, still, (ABC, (whole(99),))), ABC)

    def test_of_no_form(self):
        for paper in ODD_THINGS + (
            (PLACES,),
            NEAR + ((),),
            list(NEAR),
            (list(PLACES), MULTIPLIERS),
            (PLACES, list(MULTIPLIERS)),
            (None, MULTIPLIERS),
            (PLACES, None),
        ):
            self.wrong(None, paper)

    def test_places(self):
        for place in range(3):
            for thing in (
                None,
                point("d", 0, 0),
                PLACES[place][:2],
                list(PLACES[place]),
                PLACES[place] + (0,),
                (PLACES[place][0], 2, NOUGHT),
                (PLACES[place][0], NOUGHT, (2, 4)),
            ):
                self.wrong(("places", place), (exchanged(PLACES, place, thing), MULTIPLIERS))
        self.wrong(("places", 0), ((PLACES[1], PLACES[0], PLACES[2]), MULTIPLIERS))
        self.wrong(("places", 1), ((PLACES[0], PLACES[0], PLACES[2]), MULTIPLIERS))
        self.wrong(("places", 2), (PLACES[:2], MULTIPLIERS))
        self.wrong(("places", 0), ((), ()))
        self.wrong(("places", 3), (PLACES + (point("d", 0, 0),), MULTIPLIERS))
        self.wrong(("places", 1), (exchanged(PLACES, 1, None), ()))

    def test_multipliers(self):
        for place in range(3):
            for thing in WRONG_FRACTIONS:
                self.wrong(("multipliers", place), (PLACES, exchanged(MULTIPLIERS, place, thing)))
        self.wrong(("multipliers", 2), (PLACES, MULTIPLIERS[:2]))
        self.wrong(("multipliers", 0), (ABC, ()))
        self.wrong(("multipliers", 3), (PLACES, MULTIPLIERS + (NOUGHT,)))

    def test_sayings_that_dont_hold(self):
        self.wrong(("saying", 0), (ABC, (NOUGHT,) * 3))
        self.wrong(("saying", 0), (exchanged(PLACES, 0, point("a", 3, "-1/3")), MULTIPLIERS))
        self.wrong(("saying", 1), (exchanged(PLACES, 2, point("c", 1, "1/3")), MULTIPLIERS))

    def test_moves(self):
        # All hold there, too, but others are nearer.
        self.wrong(("move", 0), ((point("a", 3, "-1/3"), point("b", 3, 1), PLACES[2]), MULTIPLIERS))
        self.wrong(("move", 1), ((point("a", 2, 0), PLACES[1], point("c", 1, 1)), MULTIPLIERS))
        self.wrong(("move", 3), (exchanged(PLACES, 1, point("b", 2, 2)), MULTIPLIERS))
        self.wrong(("move", 4), (exchanged(PLACES, 2, point("c", 5, "2/3")), MULTIPLIERS))
        self.wrong(("move", 0), (PLACES, exchanged(MULTIPLIERS, 0, ONE)))
        self.wrong(("move", 1), (PLACES, exchanged(MULTIPLIERS, 1, ONE)))
        self.wrong(("move", 0), (PLACES, exchanged(MULTIPLIERS, 2, ONE)))

    def test_never_a_clash(self):
        self.wrong(("saying", 1), ((point("a", 1, 0), point("b", 4, 2), C), (NOUGHT,) * 3), CLASH)
        self.wrong(None, None, CLASH)
        self.assertEqual(refusal(self, Clash, near_paper, ABC, CLASH).number, 1)


class Words(unittest.TestCase):
    BESIDE = (("level", "a", "b", "x"), ("apart", "a", "c", "y", 1), ("at", "b", "x", 3))
    FOLLOWS = ("at", "a", "x", 3)
    CLASHES = ("apart", "c", "a", "y", 1)
    FREE = ("apart", "a", "b", "y", 7)
    SHOWN = ("follows", (whole(-1), NOUGHT, ONE))
    OTHER = ("clashes", (NOUGHT, whole(-1), NOUGHT))
    MOTION = ("free", (point("a", 0, 1), point("b", 0, 0), point("c", 0, 1)))

    def wrong(self, place, saying, paper):
        found = refusal(self, BadPaper, check_word, ABC, self.BESIDE, saying, paper)
        self.assertEqual(found.place, place, paper)

    def test_told_papers(self):
        found = []
        for points, sayings, saying in sketches(52, 400):
            paper = word_paper(points, sayings, saying)
            word, part = paper
            found.append(word)
            self.assertEqual(word, word_beside(points, sayings, saying))
            self.assertEqual(check_word(points, sayings, saying, paper), word)
            if word == "free":
                self.assertEqual([one[0] for one in part], [one[0] for one in points])
                self.assertEqual([moved(points, one, part) for one in sayings], [0] * len(sayings))
                self.assertNotEqual(moved(points, saying, part), 0)
            else:
                factors, number = summed(points, sayings, part)
                self.assertEqual(factors, row(points, saying)[0])
                self.assertIs(number == row(points, saying)[1], word == "follows")
        self.assertGreater(min(found.count(word) for word in ("follows", "clashes", "free")), 40)

    def test_any_right_paper_is_let_by(self):
        self.assertEqual(check_word(ABC, self.BESIDE, self.FOLLOWS, self.SHOWN), "follows")
        self.assertEqual(check_word(ABC, self.BESIDE, self.CLASHES, self.OTHER), "clashes")
        self.assertEqual(check_word(points=ABC, sayings=self.BESIDE, saying=self.FREE, paper=self.MOTION), "free")
        motion = ("free", (point("a", 0, 0), point("b", 0, "1/2"), point("c", 77, 0)))
        self.assertEqual(check_word(ABC, self.BESIDE, self.FREE, motion), "free")
        twice = self.BESIDE + self.BESIDE[:1]
        for by in ("0", "-1/2", "9"):
            shared = (pair(-1 - plain(pair(by))), NOUGHT, ONE, pair(by))
            self.assertEqual(check_word(ABC, twice, self.FOLLOWS, ("follows", shared)), "follows")
        self.assertEqual(check_word(ABC, (), ("level", "a", "a", "x"), ("follows", ())), "follows")
        self.assertEqual(check_word(ABC, (), ("apart", "a", "a", "x", 1), ("clashes", ())), "clashes")

    def test_of_no_form(self):
        wrong = (
            ("follows",),
            self.SHOWN + ((),),
            list(self.SHOWN),
            ("follows", list(self.SHOWN[1])),
            ("follows", None),
            ("near", self.SHOWN[1]),
            (None, ()),
            (1, ()),
            ("", ()),
            (["follows"], ()),
            ("Free", ()),
            ("free", None),
        )
        for paper in ODD_THINGS + wrong:
            self.wrong(None, self.FOLLOWS, paper)

    def test_multipliers(self):
        for word, saying, part in (
            self.SHOWN[:1] + (self.FOLLOWS,) + self.SHOWN[1:],
            self.OTHER[:1] + (self.CLASHES,) + self.OTHER[1:],
        ):
            for place in range(3):
                for thing in WRONG_FRACTIONS:
                    self.wrong(("multipliers", place), saying, (word, exchanged(part, place, thing)))
            self.wrong(("multipliers", 2), saying, (word, part[:2]))
            self.wrong(("multipliers", 0), saying, (word, ()))
            self.wrong(("multipliers", 3), saying, (word, part + (NOUGHT,)))

    def test_motion(self):
        part = self.MOTION[1]
        for place in range(3):
            for thing in (None, point("d", 0, 0), part[place][:2], list(part[place]), (part[place][0], 0, NOUGHT)):
                self.wrong(("motion", place), self.FREE, ("free", exchanged(part, place, thing)))
        self.wrong(("motion", 0), self.FREE, ("free", part[::-1]))
        self.wrong(("motion", 2), self.FREE, ("free", part[:2]))
        self.wrong(("motion", 0), self.FREE, ("free", ()))
        self.wrong(("motion", 3), self.FREE, ("free", part + (point("d", 0, 0),)))

    def test_sums(self):
        for word, saying, part, places in (
            ("follows", self.FOLLOWS, self.SHOWN[1], (0, 1, 2)),
            ("clashes", self.CLASHES, self.OTHER[1], (0, 1, 2)),
        ):
            for number, place in enumerate(places):
                self.wrong(("sum", place), saying, (word, exchanged(part, number, whole(7))))
        # The number behind all coordinates: the Ns of the other word.
        self.wrong(("sum", 6), self.FOLLOWS, ("clashes", self.SHOWN[1]))
        self.wrong(("sum", 6), self.CLASHES, ("follows", self.OTHER[1]))
        self.wrong(("sum", 1), self.FREE, ("follows", (NOUGHT,) * 3))
        self.wrong(("sum", 1), self.FREE, ("clashes", (NOUGHT,) * 3))

    def test_motions_that_dont_keep_all(self):
        self.wrong(("saying", 0), self.FREE, ("free", (point("a", 1, 0), point("b", 0, 0), point("c", 0, 0))))
        self.wrong(("saying", 1), self.FREE, ("free", (point("a", 0, 1), point("b", 0, 0), point("c", 0, 0))))
        self.wrong(("saying", 2), self.FREE, ("free", (point("a", 1, 0), point("b", 1, 0), point("c", 0, 0))))
        self.wrong(("saying", 3), self.FREE, ("free", (point("a", 0, 0), point("b", 0, 0), point("c", 5, 0))))
        self.wrong(("saying", 3), self.FREE, ("free", (point("a", 0, 0), point("b", 0, 0), point("c", 0, 0))))
        self.wrong(("saying", 3), self.FOLLOWS, self.MOTION)

    def test_the_order_of_refusals(self):
        for call, more in ((word_paper, ()), (check_word, (None,))):
            self.assertEqual(refusal(self, BadSketch, call, (A, A), CLASH, None, *more).number, 1)
            found = refusal(self, BadSketch, call, ABC, CLASH + (None,), None, *more)
            self.assertEqual((found.part, found.number), ("sayings", 3))
            self.assertEqual(refusal(self, Clash, call, ABC, CLASH, None, *more).number, 1)
            self.assertEqual(refusal(self, Clash, call, ABC, CLASH, self.FREE, *more).number, 1)
            for thing in ODD_THINGS + (("at", "d", "x", 0), ("at", "a", "x", 1000)):
                refusal(self, OutOfPlace, call, ABC, self.BESIDE, thing, *more)
        refusal(self, OutOfPlace, check_word, ABC, self.BESIDE, None, self.SHOWN)


class Ways(unittest.TestCase):
    POINTS = (A, B)
    SAYINGS = (("apart", "a", "b", "x", 1), ("at", "b", "y", 2), ("apart", "b", "a", "x", -1))
    X = (("b", "x"), (point("a", 1, 0), point("b", 1, 0)))
    Y = (("a", "y"), (point("a", 0, 1), point("b", 0, 0)))
    SUM_X = (("a", "x"), (whole(-1), NOUGHT, NOUGHT))
    SUM_Y = (("b", "y"), (NOUGHT, ONE, NOUGHT))
    PAPER = ((Y, X), (SUM_X, SUM_Y))

    def wrong(self, place, motions=None, sums=None):
        paper = (self.PAPER[0] if motions is None else motions, self.PAPER[1] if sums is None else sums)
        self.assertEqual(refusal(self, BadPaper, check_ways, self.POINTS, self.SAYINGS, paper).place, place, paper)

    def test_told_papers(self):
        for points, sayings, _ in sketches(53, 150):
            paper = ways_paper(points, sayings)
            motions, sums = paper
            self.assertEqual(sorted(one for one, _ in motions + sums), sorted(coordinates(points)))
            for part in paper:
                self.assertEqual([one for one, _ in part], [one for one in coordinates(points) if one in dict(part)])
            for name, motion in motions:
                self.assertEqual([moved(points, one, motion) for one in sayings], [0] * len(sayings))
                self.assertEqual(
                    [values_at(motion)[other] for other, _ in motions], [int(name == other) for other, _ in motions]
                )
            for name, multipliers in sums:
                factors = dict(zip(coordinates(points), summed(points, sayings, multipliers)[0]))
                self.assertEqual([factors[other] for other, _ in sums], [int(name == other) for other, _ in sums])
            self.assertEqual(check_ways(points, sayings, paper), len(motions))
            self.assertEqual(free_ways(points, sayings), len(motions))
        self.assertEqual(ways_paper((), ()), ((), ()))
        self.assertEqual(ways_paper(points=(), sayings=()), ((), ()))

    def test_any_right_paper_is_let_by(self):
        self.assertEqual(check_ways(self.POINTS, self.SAYINGS, self.PAPER), 2)
        self.assertEqual(check_ways(points=self.POINTS, sayings=self.SAYINGS, paper=self.PAPER), 2)
        # The other coordinate of the two that go together, and other multipliers of what is told twice.
        motion = (("a", "x"), (point("a", 1, 0), point("b", 1, 0)))
        sum_x = (("b", "x"), (NOUGHT, NOUGHT, whole(-1)))
        self.assertEqual(check_ways(self.POINTS, self.SAYINGS, ((motion, self.Y), (sum_x, self.SUM_Y))), 2)
        shared = (("a", "x"), (whole(-3), NOUGHT, whole(-2)))
        self.assertEqual(check_ways(self.POINTS, self.SAYINGS, ((self.Y, self.X), (shared, self.SUM_Y))), 2)
        # A motion may go along with coordinates of no other motion.
        self.assertEqual(
            check_ways((A,), (), (((("a", "x"), (point("a", 1, 0),)), (("a", "y"), (point("a", 0, 1),))), ())), 2
        )
        self.assertEqual(check_ways((), (), ((), ())), 0)

    def test_never_a_clash(self):
        clash = self.SAYINGS[:2] + (("apart", "a", "b", "x", 5),)
        refusal(self, Clash, ways_paper, self.POINTS, clash)
        self.assertEqual(check_ways(self.POINTS, clash, ((self.Y, self.X), (self.SUM_X, self.SUM_Y))), 2)

    def test_of_no_form(self):
        for paper in ODD_THINGS + (
            self.PAPER[:1],
            self.PAPER + ((),),
            list(self.PAPER),
            ([], ()),
            ((), []),
            (None, ()),
            ((), None),
        ):
            self.assertIsNone(refusal(self, BadPaper, check_ways, self.POINTS, self.SAYINGS, paper).place)

    def test_motions_by_their_form(self):
        wrong = (
            None,
            self.Y[:1],
            self.Y + (0,),
            list(self.Y),
            (("d", "x"), self.Y[1]),
            (["a", "y"], self.Y[1]),
            ("a", self.Y[1]),
            (("a", "z"), self.Y[1]),
            (("a", "y"), None),
            (("a", "y"), list(self.Y[1])),
            (("a", "y"), self.Y[1][:1]),
            (("a", "y"), self.Y[1] + (point("c", 0, 0),)),
            (("a", "y"), self.Y[1][::-1]),
            (("a", "y"), (A, ("b", 0, 0))),
        )
        for thing in wrong:
            self.wrong(("motions", 0), (thing, self.X))
            self.wrong(("motions", 1), (self.Y, thing))
        self.wrong(("motions", 1), (self.X, self.Y))
        self.wrong(("motions", 1), (self.Y, self.Y))
        self.wrong(("motions", 2), (self.Y, self.X, self.X))

    def test_forms_ahead_of_what_they_tell(self):
        bad = (("a", "y"), (point("a", 5, 5), point("b", 5, 5)))
        self.wrong(("motions", 1), (bad, None))
        self.wrong(("motions", 0), (bad, self.X), (None, None))
        bad_sum = (("a", "x"), (whole(5),) * 3)
        self.wrong(("sums", 1), None, (bad_sum, None))
        self.wrong(("sums", 0), (), (None,))

    def test_motions_that_arent_so(self):
        for values in ((0, 0, 0, 0), (0, 2, 0, 0), (1, 1, 0, 0), (0, 1, 0, 1), (1, 1, 1, 0)):
            self.wrong(("motions", 0), ((("a", "y"), (point("a", *values[:2]), point("b", *values[2:]))), self.X))
        for values in ((1, 1, 1, 0), (0, 0, 1, 0), (2, 0, 2, 0)):
            self.wrong(("motions", 1), (self.Y, (("b", "x"), (point("a", *values[:2]), point("b", *values[2:])))))
        self.wrong(
            ("motions", 0),
            ((("a", "y"), (point("a", 1, 1), point("b", 1, 0))), (("b", "x"), (point("a", 1, 1), point("b", 1, 0)))),
        )

    def test_sums_by_their_form(self):
        wrong = (
            None,
            self.SUM_X[:1],
            self.SUM_X + (0,),
            list(self.SUM_X),
            (("d", "x"), self.SUM_X[1]),
            ("ax", self.SUM_X[1]),
            (("a", "x"), None),
            (("a", "x"), list(self.SUM_X[1])),
            (("a", "x"), self.SUM_X[1][:2]),
            (("a", "x"), self.SUM_X[1] + (NOUGHT,)),
        )
        wrong += tuple(
            (("a", "x"), exchanged(self.SUM_X[1], place, thing)) for place in range(3) for thing in WRONG_FRACTIONS
        )
        for thing in wrong:
            self.wrong(("sums", 0), None, (thing, self.SUM_Y))
            self.wrong(("sums", 1), None, (self.SUM_X, thing))
        self.wrong(("sums", 1), None, (self.SUM_Y, self.SUM_X))
        self.wrong(("sums", 1), None, (self.SUM_X, self.SUM_X))

    def test_sums_that_arent_so(self):
        for by in ((0, 0, 0), (1, 0, 0), (-1, 1, 0), (-1, 0, -1), (-2, 0, 0)):
            self.wrong(("sums", 0), None, ((("a", "x"), tuple(whole(one) for one in by)), self.SUM_Y))
        for by in ((0, 0, 0), (0, 2, 0), (1, 1, 0), (-1, 0, 0)):
            self.wrong(("sums", 1), None, (self.SUM_X, (("b", "y"), tuple(whole(one) for one in by))))

    def test_each_coordinate_just_once(self):
        self.wrong(("coordinate", 0), None, (self.SUM_Y,))
        self.wrong(("coordinate", 3), None, (self.SUM_X,))
        self.wrong(("coordinate", 1), (self.X,))
        self.wrong(("coordinate", 2), (self.Y,))
        self.wrong(("coordinate", 0), (), ())
        # Told as both: the motion goes along with the row's coordinate as it likes.
        both = (("a", "x"), (point("a", 1, 0), point("b", 1, 0)))
        self.wrong(("coordinate", 0), (both, self.Y))
        self.wrong(("sums", 0), None, (self.SUM_X, (("b", "x"), (ONE, NOUGHT, NOUGHT)), self.SUM_Y))

    def test_refused(self):
        for call, more in ((near_paper, ()), (ways_paper, ()), (check_near, (None,)), (check_ways, (None,))):
            for thing in ODD_THINGS:
                if thing != ():
                    self.assertEqual(refusal(self, BadSketch, call, thing, None, *more).part, "points")
                    self.assertEqual(refusal(self, BadSketch, call, ABC, thing, *more).part, "sayings")
            found = refusal(self, BadSketch, call, ABC, CLASH + (None,), *more)
            self.assertEqual((found.part, found.number), ("sayings", 3))


class Spoilt(unittest.TestCase):
    def test_one_number_otherwise(self):
        chance = random.Random(54)
        for points, sayings, _ in sketches(55, 60):
            places, multipliers = near_paper(points, sayings)
            at = chance.randrange(len(points))
            name, x, y = places[at]
            spoilt = exchanged(places, at, (name, pair(plain(x) + 1), y))
            with self.assertRaises(BadPaper) as held:
                check_near(points, sayings, (spoilt, multipliers))
            values = values_at(spoilt)
            wrong = [k for k, one in enumerate(sayings) if off(one, values) != 0]
            self.assertEqual(held.exception.place, ("saying", wrong[0]) if wrong else ("move", 2 * at))


if __name__ == "__main__":
    unittest.main()
