import random
import unittest
from fractions import Fraction
from math import floor

from panelworks import fractions
from panelworks.errors import OutOfPlace
from panelworks.fractions import (
    NOUGHT,
    compared,
    floor_of,
    fraction,
    fraction_text,
    in_order,
    is_fraction,
    is_under,
    less,
    mean,
    middles,
    over,
    plus,
    range_of,
    read_fraction,
    times,
    total,
)

from tests.helpers import ODD_THINGS, pair, plain, refusal

GREAT = 10**40 + 7


def some_fractions():
    chance = random.Random(11)
    found = [Fraction(one) for one in (0, 1, -1, 2, -7)] + [Fraction(GREAT, 3), Fraction(-5, GREAT), Fraction(-1, 2)]
    found += [Fraction(chance.randint(-40, 40), chance.randint(1, 12)) for _ in range(30)]
    found += [Fraction(chance.randint(-GREAT, GREAT), chance.randint(1, GREAT)) for _ in range(6)]
    return found


class Forms(unittest.TestCase):
    def test_nought(self):
        self.assertEqual(NOUGHT, (0, 1))
        self.assertEqual(fractions.NOUGHT, (0, 1))

    def test_is_fraction(self):
        for thing in ((0, 1), (5, 1), (-5, 1), (1, 2), (-3, 4), (GREAT, 3), (4, 9)):
            self.assertIs(is_fraction(thing), True, thing)
        wrong = (
            (0, 2),
            (2, 4),
            (-2, 4),
            (1, 0),
            (0, 0),
            (1, -2),
            (3, -1),
            (1, 2, 3),
            (1,),
            [1, 2],
            (True, 1),
            (1, True),
            (1.0, 2),
            (1, 2.0),
            ("1", "2"),
            (None, 1),
            (1, None),
            "12",
            1,
            Fraction(1, 2),
            ((1, 2), 1),
            (False, 1),
        )
        for thing in wrong + ODD_THINGS:
            self.assertIs(is_fraction(thing), False, thing)

    def test_is_fraction_with_most(self):
        for thing in ((9, 1), (-9, 1), (1, 9), (9, 8), (-9, 8), (0, 1)):
            self.assertIs(is_fraction(thing, most=9), True, thing)
        for thing in ((10, 1), (-10, 1), (1, 10), (10, 9), (9, 10), (2, 4), None):
            self.assertIs(is_fraction(thing, most=9), False, thing)
        self.assertIs(is_fraction((9999, 10000), most=None), True)
        self.assertIs(is_fraction((0, 1), most=0), False)
        for most in ("9", True, (), []):
            self.assertIs(is_fraction((1, 1), most=most), False)

    def test_behind_a_star_by_name_alone(self):
        for call in (lambda: is_fraction((1, 2), 9), lambda: in_order([(1, 2)], True)):
            with self.assertRaises(TypeError):
                call()

    def test_fraction(self):
        told = (
            ((6, 4), (3, 2)),
            ((-6, 4), (-3, 2)),
            ((6, -4), (-3, 2)),
            ((-6, -4), (3, 2)),
            ((0, 7), (0, 1)),
            ((0, -7), (0, 1)),
            ((5,), (5, 1)),
            ((-5,), (-5, 1)),
            ((0,), (0, 1)),
            ((7, 7), (1, 1)),
        )
        for things, found in told:
            self.assertEqual(fraction(*things), found)
        self.assertEqual(fraction(top=2, bottom=-6), (-1, 3))

    def test_fraction_refused(self):
        for things in (
            (1, 0),
            (0, 0),
            (True, 1),
            (1, True),
            (1, False),
            (1.5,),
            (1, 2.0),
            ("1", 2),
            (1, "2"),
            (None,),
            (1, None),
            ((1, 2), 1),
            ([], 1),
        ):
            refusal(self, OutOfPlace, fraction, *things)
        for thing in ODD_THINGS:
            refusal(self, OutOfPlace, fraction, thing)
            refusal(self, OutOfPlace, fraction, 1, thing)


class Reckoning(unittest.TestCase):
    def test_by_pythons_own(self):
        for one in some_fractions():
            for other in some_fractions():
                self.both(pair(one), pair(other), one, other)

    def both(self, first, second, one, other):
        self.assertEqual(plus(first, second), pair(one + other))
        self.assertEqual(less(first, second), pair(one - other))
        self.assertEqual(times(first, second), pair(one * other))
        self.assertEqual(mean(first, second), pair((one + other) / 2))
        self.assertEqual(compared(first, second), (one > other) - (one < other))
        self.assertIs(is_under(first, second), one < other)
        if other != 0:
            self.assertEqual(over(first, second), pair(one / other))
        else:
            refusal(self, OutOfPlace, over, first, second)

    def test_plain_ones(self):
        self.assertEqual(plus((1, 2), (1, 3)), (5, 6))
        self.assertEqual(plus((1, 2), (-1, 2)), (0, 1))
        self.assertEqual(less((1, 2), (1, 2)), (0, 1))
        self.assertEqual(times((2, 3), (3, 2)), (1, 1))
        self.assertEqual(over((1, 2), (-1, 3)), (-3, 2))
        self.assertEqual(over((0, 1), (-1, 3)), (0, 1))
        self.assertEqual(mean((0, 1), (1, 1)), (1, 2))

    def test_floor(self):
        for one in some_fractions():
            self.assertEqual(floor_of(pair(one)), floor(one))
        self.assertEqual([floor_of(one) for one in ((-1, 2), (1, 2), (-3, 1), (7, 2), (-7, 2))], [-1, 0, -3, 3, -4])

    def test_names_of_arguments(self):
        one, other = (1, 2), (1, 3)
        told = (
            (plus, (5, 6)),
            (less, (1, 6)),
            (times, (1, 6)),
            (over, (3, 2)),
            (mean, (5, 12)),
            (compared, 1),
            (is_under, False),
        )
        for call, found in told:
            self.assertEqual(call(one=one, other=other), found)
        self.assertEqual(floor_of(one=one), 0)
        self.assertEqual(fraction_text(one=one), "1/2")
        self.assertEqual(read_fraction(word="1/2"), one)
        for call, found in ((total, (1, 2)), (range_of, (one, one)), (in_order, (one,)), (middles, ())):
            self.assertEqual(call(some=[one]), found)
        self.assertEqual(in_order(some=[one, one], twice=True), (one, one))
        self.assertIs(is_fraction(thing=one, most=2), True)


class Rows(unittest.TestCase):
    def test_total(self):
        for kind in (list, tuple):
            self.assertEqual(total(kind()), (0, 1))
            self.assertEqual(total(kind([(1, 2), (1, 3), (-5, 6)])), (0, 1))
            self.assertEqual(total(kind([(1, 2), (1, 2), (1, 3)])), (4, 3))
        self.assertEqual(total([pair(one) for one in some_fractions()]), pair(sum(some_fractions())))

    def test_range_of(self):
        for kind in (list, tuple):
            self.assertEqual(range_of(kind([(1, 2)])), ((1, 2), (1, 2)))
            self.assertEqual(range_of(kind([(1, 2), (-7, 2), (2, 3), (1, 2)])), ((-7, 2), (2, 3)))
            refusal(self, OutOfPlace, range_of, kind())
        all_of = some_fractions()
        self.assertEqual(range_of([pair(one) for one in all_of]), (pair(min(all_of)), pair(max(all_of))))

    def test_in_order(self):
        all_of = some_fractions() * 2
        random.Random(3).shuffle(all_of)
        self.assertEqual(in_order([pair(one) for one in all_of]), tuple(pair(one) for one in sorted(set(all_of))))
        self.assertEqual(
            in_order([pair(one) for one in all_of], twice=True), tuple(pair(one) for one in sorted(all_of))
        )
        self.assertEqual(in_order(((1, 2), (1, 3), (1, 2))), ((1, 3), (1, 2)))
        self.assertEqual(in_order(((1, 2), (1, 3), (1, 2)), twice=False), ((1, 3), (1, 2)))
        self.assertEqual(in_order([(1, 2), (1, 3), (1, 2)], twice=True), ((1, 3), (1, 2), (1, 2)))
        self.assertEqual((in_order([]), in_order((), twice=True)), ((), ()))

    def test_middles(self):
        for kind in (list, tuple):
            self.assertEqual(middles(kind([(0, 1), (1, 1), (1, 2)])), ((1, 2), (3, 4)))
            self.assertEqual(middles(kind([(5, 1)])), ())
            self.assertEqual(middles(kind()), ())
        row = [pair(one) for one in sorted(some_fractions())]
        self.assertEqual(
            middles(row), tuple(pair((plain(one) + plain(other)) / 2) for one, other in zip(row, row[1:]))
        )

    def test_rows_stay_as_they_are(self):
        row = [(3, 1), (1, 2), (1, 2), (-1, 1)]
        for call in (total, range_of, in_order, middles):
            call(row)
            self.assertEqual(row, [(3, 1), (1, 2), (1, 2), (-1, 1)])
        found = in_order(row)
        row.clear()
        self.assertEqual(found, ((-1, 1), (1, 2), (3, 1)))


class Texts(unittest.TestCase):
    def test_text(self):
        told = (
            ((0, 1), "0"),
            ((5, 1), "5"),
            ((-5, 1), "-5"),
            ((1, 2), "1/2"),
            ((-3, 4), "-3/4"),
            ((GREAT, 3), f"{GREAT}/3"),
        )
        for one, text in told:
            self.assertEqual(fraction_text(one), text)

    def test_both_ways(self):
        for top in (0, 1, -1, 7, -12, 9999, -9999, 1000, 30):
            for bottom in (1, 2, 3, 10, 99, 9999, 9998):
                one = pair(Fraction(top, bottom))
                self.assertEqual(read_fraction(fraction_text(one)), one)

    def test_what_tells_none(self):
        wrong = (
            "",
            "-",
            "/",
            "1/",
            "/2",
            "-/2",
            "-0",
            "-0/2",
            "0/2",
            "0/1",
            "1/1",
            "5/1",
            "1/0",
            "0/0",
            "2/4",
            "-6/3",
            "01",
            "-01",
            "1/02",
            "00",
            "1/00",
            "10000",
            "-10000",
            "1/10000",
            "10000/3",
            "+1",
            "1/-2",
            "1/+2",
            "--1",
            " 1",
            "1 ",
            "1 /2",
            "1/ 2",
            "1/2/3",
            "1//2",
            "1.5",
            "x",
            "1/x",
            "x/2",
            "1\n",
            "\n1",
            "1/2\n",
            "1,2",
            "\u0661",
            "1/\u0662",
        )
        for word in wrong + ODD_THINGS + (1, (1, 2)):
            self.assertIsNone(read_fraction(word), word)

    def test_great_ones_that_are_told_are_not_read(self):
        self.assertIsNone(read_fraction(fraction_text((10000, 1))))
        self.assertIsNone(read_fraction(fraction_text((1, 10001))))


if __name__ == "__main__":
    unittest.main()
