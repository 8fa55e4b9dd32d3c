import random
import unittest

from panelworks.clashes import check_clash, clash_paper, first_clash
from panelworks.errors import BadPaper, BadSketch

from tests.helpers import (
    ODD_THINGS,
    clash_number,
    coordinates,
    off,
    pair,
    plain,
    point,
    refusal,
    row,
    sketch_from,
    values_at,
    whole,
)

A = point("a", 0, 0)
B = point("b", 4, 1)
C = point("c", 1, "1/3")
ABC = (A, B, C)
CLASHING = (
    ("apart", "a", "b", "x", 1),
    ("at", "c", "y", 5),
    ("apart", "b", "c", "x", 1),
    ("apart", "a", "c", "x", 4),
    ("at", "c", "y", 6),
)
NUMBER = 3
MULTIPLIERS = (pair("-1/2"), whole(0), pair("-1/2"), pair("1/2"))
PLACES = (point("a", 7, 0), point("b", 8, "1/9"), point("c", 9, 5))
PAPER = (NUMBER, MULTIPLIERS, PLACES)


class Told(unittest.TestCase):
    def test_first_clash(self):
        told = (
            ((), None),
            (CLASHING, 3),
            (CLASHING[:3], None),
            (CLASHING[3:] + CLASHING[:3], 3),
            (CLASHING[:2] + CLASHING[4:], 2),
            ((("apart", "a", "a", "x", 1),), 0),
            ((("level", "a", "a", "x"),) * 20, None),
            ((("at", "a", "x", 1),) * 19 + (("at", "a", "x", 2),), 19),
        )
        for sayings, number in told:
            self.assertEqual(first_clash(ABC, sayings), number)
        self.assertEqual(first_clash(points=(), sayings=()), None)

    def test_paper_of_none(self):
        self.assertIsNone(clash_paper(ABC, ()))
        self.assertIsNone(clash_paper(points=ABC, sayings=CLASHING[:3]))

    def test_by_chance(self):
        chance = random.Random(31)
        clashing = 0
        for _ in range(300):
            points, sayings = sketch_from(chance, chance.randint(1, 5), chance.randint(0, 9), 3)
            number = clash_number(points, sayings)
            self.assertEqual(first_clash(points, sayings), number)
            paper = clash_paper(points, sayings)
            if number is None:
                self.assertIsNone(paper)
                continue
            clashing += 1
            self.right(points, sayings, paper, number)
            self.assertEqual(check_clash(points, sayings, paper), number)
        self.assertGreater(clashing, 60)

    def right(self, points, sayings, paper, number):
        told, multipliers, places = paper
        self.assertEqual((told, len(multipliers)), (number, number + 1))
        self.assertEqual([off(one, values_at(places)) for one in sayings[:number]], [0] * number)
        rows = [row(points, one) for one in sayings[: number + 1]]
        for k in range(len(coordinates(points))):
            self.assertEqual(sum(plain(by) * line[0][k] for by, line in zip(multipliers, rows)), 0)
        self.assertEqual(sum(plain(by) * line[1] for by, line in zip(multipliers, rows)), 1)


class Lookers(unittest.TestCase):
    def wrong(self, place, paper, sayings=CLASHING):
        self.assertEqual(refusal(self, BadPaper, check_clash, ABC, sayings, paper).place, place, paper)

    def test_any_right_paper_is_let_by(self):
        self.assertEqual(check_clash(ABC, CLASHING, PAPER), 3)
        self.assertEqual(check_clash(points=ABC, sayings=CLASHING, paper=PAPER), 3)
        # More sayings behind the first clash change nothing.
        self.assertEqual(check_clash(ABC, CLASHING + (("at", "a", "x", 99),), PAPER), 3)
        twice = CLASHING[:1] * 2 + (("apart", "a", "b", "x", 3),)
        for by in ("0", "1/3", "-7"):
            shared = (pair(by), pair(-plain(pair(by)) + plain(pair("-1/2"))), pair("1/2"))
            self.assertEqual(check_clash(ABC, twice, (2, shared, PLACES)), 2)
        self.assertEqual(check_clash(ABC, (("apart", "a", "a", "x", -4),), (0, (pair("-1/4"),), ABC)), 0)

    def test_of_no_form(self):
        for paper in ODD_THINGS + (
            PAPER[:2],
            PAPER + ((),),
            list(PAPER),
            (NUMBER, list(MULTIPLIERS), PLACES),
            (NUMBER, MULTIPLIERS, list(PLACES)),
            (NUMBER, None, PLACES),
            (NUMBER, MULTIPLIERS, None),
        ):
            self.wrong(None, paper)
        for number in (-1, 5, True, None, "3", 3.0, (3,)):
            self.wrong(None, (number, MULTIPLIERS, PLACES))
        self.wrong(None, (0, (), ()), ())

    def test_multipliers(self):
        for thing in (None, 1, (2, 4), (1, 0), "1", [1, 2], (True, 1)):
            for place in range(4):
                self.wrong(
                    ("multipliers", place), (3, MULTIPLIERS[:place] + (thing,) + MULTIPLIERS[place + 1 :], PLACES)
                )
        self.wrong(("multipliers", 3), (3, MULTIPLIERS[:3], PLACES))
        self.wrong(("multipliers", 0), (3, (), PLACES))
        self.wrong(("multipliers", 4), (3, MULTIPLIERS + (whole(0),), PLACES))
        self.wrong(("multipliers", 1), (3, (MULTIPLIERS[0], None), PLACES))
        # The number tells how many there must be.
        self.wrong(("multipliers", 3), (2, MULTIPLIERS, PLACES))
        self.wrong(("multipliers", 4), (4, MULTIPLIERS, PLACES))

    def test_places(self):
        for thing in (
            None,
            point("d", 0, 0),
            ("a", whole(0)),
            ("a", whole(0), 0),
            ["a", whole(0), whole(0)],
            A + (0,),
        ):
            for place in range(3):
                self.wrong(("places", place), (3, MULTIPLIERS, PLACES[:place] + (thing,) + PLACES[place + 1 :]))
        self.wrong(("places", 0), (3, MULTIPLIERS, (PLACES[1], PLACES[0], PLACES[2])))
        self.wrong(("places", 1), (3, MULTIPLIERS, (PLACES[0], PLACES[0], PLACES[2])))
        self.wrong(("places", 2), (3, MULTIPLIERS, PLACES[:2]))
        self.wrong(("places", 0), (3, MULTIPLIERS, ()))
        self.wrong(("places", 3), (3, MULTIPLIERS, PLACES + PLACES[:1]))

    def test_places_behind_multipliers(self):
        self.wrong(("multipliers", 3), (3, MULTIPLIERS[:3], ()))
        self.wrong(("places", 0), (3, (whole(9),) * 4, ()))

    def test_sayings_that_dont_hold(self):
        told = ((0, point("a", 6, 0)), (1, point("c", 9, 4)), (2, point("c", 8, 5)))
        for number, place in told:
            self.wrong(
                ("saying", number), (3, MULTIPLIERS, tuple(place if one[0] == place[0] else one for one in PLACES))
            )
        self.wrong(("saying", 0), (3, (whole(9),) * 4, ABC))
        # The saying that clashes itself isn't asked for.
        self.assertEqual(check_clash(ABC, CLASHING, PAPER), 3)

    def test_sums(self):
        other = (whole(1),) + MULTIPLIERS[1:]
        self.wrong(("sum", 0), (3, other, PLACES))
        self.wrong(("sum", 5), (3, (MULTIPLIERS[0], whole(1)) + MULTIPLIERS[2:], PLACES))
        self.wrong(("sum", 2), (3, MULTIPLIERS[:2] + (whole(0),) + MULTIPLIERS[3:], PLACES))
        self.wrong(("sum", 6), (3, (whole(0),) * 4, PLACES))
        self.wrong(("sum", 6), (3, (whole(-1), whole(0), whole(-1), whole(1)), PLACES))
        self.wrong(("sum", 6), (3, (pair("1/2"), whole(0), pair("1/2"), pair("-1/2")), PLACES))

    def test_another_number(self):
        lifted = (point("a", 7, 0), point("b", 8, 1), point("c", 9, 5))
        self.wrong(("sum", 0), (2, (whole(1),) * 3, lifted))
        self.wrong(("saying", 3), (4, (pair("-1/2"), whole(0), pair("-1/2"), pair("1/2"), whole(0)), lifted))
        self.wrong(("sum", 5), (1, (whole(0), pair("1/5")), lifted))

    def test_sayings_that_dont_clash(self):
        sayings = CLASHING[:3]
        for number in range(3):
            self.wrong(("sum", 6), (number, (whole(0),) * (number + 1), PLACES), sayings)

    def test_a_number_otherwise(self):
        paper = clash_paper(ABC, CLASHING)
        for place in range(4):
            spoilt = paper[1][:place] + (whole(77),) + paper[1][place + 1 :]
            self.assertEqual(
                refusal(self, BadPaper, check_clash, ABC, CLASHING, (3, spoilt, paper[2])).place[0], "sum"
            )


class Refused(unittest.TestCase):
    def test_sketches(self):
        for call, more in ((first_clash, ()), (clash_paper, ()), (check_clash, (None,))):
            for thing in ODD_THINGS:
                if thing != ():
                    self.assertEqual(refusal(self, BadSketch, call, thing, None, *more).part, "points")
                    self.assertEqual(refusal(self, BadSketch, call, ABC, thing, *more).part, "sayings")
            found = refusal(self, BadSketch, call, ABC, CLASHING + (("at", "d", "x", 0),), *more)
            self.assertEqual((found.part, found.number), ("sayings", 5))
            found = refusal(self, BadSketch, call, (A, B, A), CLASHING, *more)
            self.assertEqual((found.part, found.number), ("points", 2))


if __name__ == "__main__":
    unittest.main()
