import random
import unittest
from fractions import Fraction
from math import ceil

from panelworks.bounds import check_low, low, low_paper, must_take, units
from panelworks.errors import BadPaper
from panelworks.ways import made_way, plain_way, time_of

from tests.helpers import (
    ODD_THINGS,
    at,
    cells_of,
    field_from,
    least_stock,
    pair,
    pits_from,
    places,
    plain,
    refusal,
    refuses_in_order,
    tools_from,
    under,
)
from tests.stepping import WRONG_DEPTHS, WRONG_FIELDS, WRONG_TOOLS

# A pit of two levels and one of one, in a plate.
FIELD = (2, ((2, 2, 2, 2), (2, 0, 0, 2), (2, 0, 1, 2), (2, 2, 2, 2)))
TOOLS = ((1, 2),)


def units_by_words(field, tools):
    stock = least_stock(field, tools)
    return [(i, j, level) for i, j in cells_of(field) for level in range(at(stock, (i, j)), field[0])]


def by_size(tools):
    return sorted(tools, key=lambda tool: (-tool[0], -tool[1]))


def sums(field, tools, prices, depth):
    """Of each rule, in the order of the document, where it is, what it comes to, and how much it may."""
    for tool in by_size(tools):
        for place in places(field, tool):
            for level in range(field[0]):
                some = [prices.get(cell + (level,), 0) for cell in under(field, tool, place)]
                yield ("down", tool, place, level), sum(some), 2
    for tool in by_size(tools):
        below = {place: set(under(field, tool, place)) for place in places(field, tool)}
        for place in sorted(below):
            for other in sorted(below):
                if abs(place[0] - other[0]) + abs(place[1] - other[1]) == 1:
                    for level in range(field[0]):
                        some = [
                            prices.get(cell + (one,), 0)
                            for cell in below[other] - below[place]
                            for one in range(level, level + depth)
                        ]
                        yield ("cut", tool, place, other, level), sum(some), 3


def first_too_much(field, tools, prices, depth):
    return next((where for where, much, most in sums(field, tools, prices, depth) if much > most), None)


def like_price(field, tools, depth):
    """The greatest like price for all units that holds."""
    ones = {unit: 1 for unit in units_by_words(field, tools)}
    return min(Fraction(most, many) for _, many, most in sums(field, tools, ones, depth) if many)


def must_by_words(field, tools):
    whole = least_stock(field, tools)
    return tuple(one for one in tools if least_stock(field, tuple(tool for tool in tools if tool != one)) != whole)


def bound_by_words(field, tools, prices):
    many = len(must_by_words(field, tools))
    if units_by_words(field, tools):
        many = max(many, 1)
    return ceil(sum(prices.values())) + 20 * many


def paper_of(prices):
    return tuple(unit + (pair(price),) for unit, price in sorted(prices.items()) if price)


def prices_from(chance, field, tools, depth, rules=("down", "cut"), share=1):
    """Prices by chance of a share of all units, as great as these rules let them be."""
    some = [unit for unit in units_by_words(field, tools) if chance.random() < share]
    weights = {unit: Fraction(chance.randint(1, 5), chance.randint(1, 4)) for unit in some}
    found = [Fraction(much) / most for where, much, most in sums(field, tools, weights, depth) if where[0] in rules]
    most = max(found, default=0)
    return {unit: weight / most for unit, weight in weights.items()} if most else {}


def works(chance, many):
    for _ in range(many):
        yield field_from(chance, most=4), tools_from(chance, chance.randint(1, 4)), chance.randint(1, 6)
    for _ in range(many // 3):
        yield pits_from(chance), tools_from(chance, chance.randint(1, 4)), chance.randint(1, 6)


class Units(unittest.TestCase):
    def test_told(self):
        wanted = ((1, 1, 0), (1, 1, 1), (1, 2, 0), (1, 2, 1), (2, 1, 0), (2, 1, 1), (2, 2, 1))
        self.assertEqual(units(FIELD, TOOLS), wanted)
        self.assertEqual(units(field=FIELD, tools=((2, 2),)), ((1, 1, 1), (1, 2, 1), (2, 1, 1), (2, 2, 1)))
        self.assertEqual(units(FIELD, ()), ())
        self.assertEqual(units(FIELD, ((4, 6),)), ())

    def test_must_take(self):
        self.assertEqual(must_take(FIELD, TOOLS), TOOLS)
        self.assertEqual(must_take(field=FIELD, tools=((2, 2), (1, 2))), ((1, 2),))
        self.assertEqual(must_take(FIELD, ((1, 2), (1, 3))), ())
        self.assertEqual(must_take(FIELD, ()), ())
        # A long one for a narrow slot, a wide one where narrow ones would be needed, each in its turn.
        field = (6, ((6, 6, 6, 6), (0, 6, 6, 6), (6, 6, 6, 6), (6, 6, 6, 6)))
        self.assertEqual(must_take(field, ((1, 1), (1, 6), (2, 6))), ((1, 6),))

    def test_by_chance(self):
        for field, tools, _ in works(random.Random(311), 50):
            self.assertEqual(units(field, tools), tuple(units_by_words(field, tools)))
            self.assertEqual(must_take(field, tools), must_by_words(field, tools))


class Low(unittest.TestCase):
    def test_told(self):
        # A narrow tool has 2 a cell and level going down; by a cut 3 come to two levels of one cell.
        self.assertEqual(low(FIELD, TOOLS), 20 + 11)
        self.assertEqual(low(field=FIELD, tools=TOOLS, depth=2), 31)
        self.assertEqual(low(FIELD, TOOLS, depth=1), 20 + 14)
        # A wide one has 2 for four cells, and comes to 3 with two cells at once.
        self.assertEqual(low(FIELD, ((2, 2),)), 20 + 2)
        # Both may go on by themselves.
        self.assertEqual(low(FIELD, ((2, 2), (1, 2))), 20 + 4)
        self.assertEqual((low(FIELD, ()), low_paper(FIELD, ())), (0, ()))
        self.assertEqual((low(FIELD, ((3, 6), (4, 6))), low_paper(FIELD, ((3, 6), (4, 6)))), (0, ()))

    def test_cells_that_never_come_under_by_a_cut(self):
        # One cell alone is under a tool at all of its places.
        for tool in ((1, 1), (2, 3), (4, 6)):
            for high in range(1, 7):
                for depth in (1, 2, 6):
                    self.assertEqual(low((high, ((0,),)), (tool,), depth=depth), 20 + 2 * high)

    def test_twenty_for_each_that_must_be_taken(self):
        # A slot too narrow for the wide one, a plate too low for the short narrow one.
        field = (3, ((2, 2, 3), (2, 2, 3), (3, 3, 0)))
        self.assertEqual(must_take(field, ((1, 3),)), ((1, 3),))
        self.assertEqual(low(field, ((1, 3), (1, 2))), low(field, ((1, 3),)))
        both = ((1, 1), (2, 6))
        wide = (4, ((4, 4, 4, 4, 4), (4, 0, 0, 4, 4), (4, 0, 0, 4, 3), (4, 4, 4, 4, 4)))
        self.assertEqual(must_take(wide, both), both)
        price = like_price(wide, both, 2)
        self.assertEqual(low(wide, both), 40 + ceil(price * len(units_by_words(wide, both))))

    def test_by_chance(self):
        met = set()
        for field, tools, depth in works(random.Random(312), 60):
            some = units_by_words(field, tools)
            price = like_price(field, tools, depth) if some else None
            met.add(price)
            prices = {unit: price for unit in some}
            self.assertEqual(low(field, tools, depth=depth), bound_by_words(field, tools, prices))
            paper = low_paper(field, tools, depth=depth)
            self.assertEqual(check_low(field, tools, paper, depth=depth), low(field, tools, depth=depth))
            found = {row[:3]: plain(row[3]) for row in paper}
            self.assertIsNone(first_too_much(field, tools, found, depth))
        self.assertGreater(len(met), 6)

    def test_the_greatest(self):
        field = (6, ((0,) * 8,) * 8)
        tools = ((4, 6), (3, 6), (2, 6), (1, 6))
        price = like_price(field, tools, 2)
        prices = {unit: price for unit in units_by_words(field, tools)}
        self.assertEqual(low(field, tools), bound_by_words(field, tools, prices))
        self.assertEqual(low(field, ((1, 6),)), 20 + 64 * 6 * 3 // 2)

    def test_no_fit_way_takes_less(self):
        for field, tools, depth in works(random.Random(313), 40):
            least = low(field, tools, depth=depth)
            for call in (plain_way, made_way):
                self.assertLessEqual(least, time_of(field, call(field, tools, depth=depth), depth=depth))


class Looker(unittest.TestCase):
    def test_other_papers(self):
        chance = random.Random(314)
        met = 0
        for field, tools, depth in works(chance, 60):
            prices = prices_from(chance, field, tools, depth)
            bound = bound_by_words(field, tools, prices)
            least = low(field, tools, depth=depth)
            if bound >= least:
                met += bound > least
                self.assertEqual(check_low(field, tools, paper_of(prices), depth=depth), bound)
                made = made_way(field, tools, depth=depth)
                self.assertLessEqual(bound, time_of(field, made, depth=depth))
        self.assertGreater(met, 2)

    def test_by_names(self):
        paper = low_paper(field=FIELD, tools=TOOLS, depth=1)
        self.assertEqual(check_low(field=FIELD, tools=TOOLS, paper=paper, depth=1), 34)
        for call, things in ((low, (FIELD, TOOLS)), (low_paper, (FIELD, TOOLS)), (check_low, (FIELD, TOOLS, paper))):
            with self.assertRaises(TypeError):
                call(*things, 1)
        # By more depth these are too much.
        self.assertEqual(refusal(self, BadPaper, check_low, FIELD, TOOLS, paper).place[0], "cut")

    def test_rows(self):
        paper = low_paper(FIELD, TOOLS)
        self.assertEqual(check_low(FIELD, TOOLS, paper), 31)
        for thing in ODD_THINGS + (list(paper), dict(enumerate(paper))):
            if not isinstance(thing, tuple):
                self.assertIsNone(refusal(self, BadPaper, check_low, FIELD, TOOLS, thing).place)
        half = (1, 2)
        wrong = [thing for thing in ODD_THINGS] + [
            paper[2][:3],
            paper[2] + (half,),
            list(paper[2]),
            (1, 2, 0, (0, 1)),
            (1, 2, 0, (-1, 2)),
            (1, 2, 0, (2, 4)),
            (1, 2, 0, (1, 0)),
            (1, 2, 0, 1),
            (1, 2, 0, 0.5),
            (1, 2, 0, None),
            (1, 2, False, half),
            (True, 2, 0, half),
            (1, 2.0, 0, half),
            (1, 2, 2, half),
            (1, 2, -1, half),
            (2, 2, 0, half),
            (0, 0, 1, half),
            (4, 1, 0, half),
            (1, 1, 1, half),
            (1, 1, 0, half),
            ([], 2, 0, half),
        ]
        for thing in wrong:
            told = refusal(self, BadPaper, check_low, FIELD, TOOLS, paper[:2] + (thing,) + paper[3:])
            self.assertEqual(told.place, ("row", 2), thing)
            # The first one is told, and ahead of what comes to too much.
            told = refusal(self, BadPaper, check_low, FIELD, TOOLS, (paper[0][:3] + ((9, 1),), thing, None))
            self.assertIn(told.place, (("row", 1), ("row", 2)), thing)
        self.assertEqual(refusal(self, BadPaper, check_low, FIELD, TOOLS, paper[::-1]).place, ("row", 1))
        self.assertEqual(refusal(self, BadPaper, check_low, FIELD, TOOLS, (paper[0],) + paper).place, ("row", 1))
        self.assertEqual(refusal(self, BadPaper, check_low, FIELD, (), paper).place, ("row", 0))
        self.assertEqual(check_low(FIELD, (), ()), 0)

    def test_too_much(self):
        chance = random.Random(315)
        met = {"down": 0, "cut": 0}
        for field, tools, depth in works(chance, 120):
            rules = chance.choice((("down",), ("cut",), ("down", "cut")))
            prices = prices_from(chance, field, tools, depth, rules, chance.choice((1, 0.5, 0.2)))
            prices = {unit: price * Fraction(1001, 1000) for unit, price in prices.items()}
            if rules == ("down",):
                prices = {unit: price * Fraction(999, 1000) for unit, price in prices.items()}
            wanted = first_too_much(field, tools, prices, depth)
            if wanted is not None:
                met[wanted[0]] += 1
                told = refusal(self, BadPaper, check_low, field, tools, paper_of(prices), depth=depth)
                self.assertEqual(told.place, wanted)
        self.assertGreater(min(met.values()), 10, met)

    def test_just_so_much(self):
        row = (3, ((0, 0),))
        two, three = (2, 1), (3, 1)
        tool = ((1, 3),)
        some = ((0, 0, 0, (3, 2)), (0, 0, 1, (3, 2)), (0, 0, 2, (3, 2)))
        self.assertEqual(check_low(row, tool, some), 20 + 5)
        told = refusal(self, BadPaper, check_low, row, tool, some, depth=3)
        self.assertEqual(told.place, ("cut", (1, 3), (1, 0), (0, 0), 0))
        self.assertEqual(check_low(row, tool, ((0, 0, 1, two),)), 22)
        told = refusal(self, BadPaper, check_low, row, tool, ((0, 0, 1, (2001, 1000)),))
        self.assertEqual(told.place, ("down", (1, 3), (0, 0), 1))
        told = refusal(self, BadPaper, check_low, row, tool, ((0, 0, 1, (1001, 1000)), (0, 0, 2, two)))
        self.assertEqual(told.place, ("cut", (1, 3), (1, 0), (0, 0), 1))
        # Levels that aren't side by side are none of a cut of two levels.
        self.assertEqual(check_low(row, tool, ((0, 0, 0, two), (0, 0, 2, two))), 24)
        told = refusal(self, BadPaper, check_low, row, tool, ((0, 0, 0, two), (0, 0, 2, two)), depth=3)
        self.assertEqual(told.place, ("cut", (1, 3), (1, 0), (0, 0), 0))
        # What goes down is told ahead of all cuts; wide tools ahead of narrow ones, long ones ahead of short ones.
        tools = ((1, 1), (2, 1), (1, 3), (2, 6))
        told = refusal(self, BadPaper, check_low, row, tools, ((0, 0, 0, two), (0, 0, 1, two), (1, 0, 2, three)))
        self.assertEqual(told.place, ("down", (2, 6), (0, -1), 2))
        told = refusal(self, BadPaper, check_low, row, tools, ((0, 0, 0, two), (0, 0, 1, two)))
        self.assertEqual(told.place, ("cut", (2, 6), (1, -1), (0, -1), 0))
        told = refusal(self, BadPaper, check_low, row, ((1, 1), (1, 3)), ((1, 0, 0, two), (1, 0, 1, two)))
        self.assertEqual(told.place, ("cut", (1, 3), (0, 0), (1, 0), 0))
        # Along both axes.
        column = (3, ((0,), (0,)))
        told = refusal(self, BadPaper, check_low, column, tool, ((0, 1, 0, two), (0, 1, 1, two)))
        self.assertEqual(told.place, ("cut", (1, 3), (0, 0), (0, 1), 0))

    def test_a_bound_rounded_up(self):
        field = (1, ((0, 0, 0),))
        for price, bound in (((1, 3), 21), ((1, 4), 21), ((2, 5), 22), ((1, 1), 23), ((1, 9999), 21)):
            self.assertEqual(check_low(field, ((1, 1),), tuple((i, 0, 0, price) for i in range(3))), bound)


class Refused(unittest.TestCase):
    def test_in_order(self):
        good = {"field": FIELD, "tools": TOOLS}
        wrongs = [("field", WRONG_FIELDS), ("tools", WRONG_TOOLS)]
        for call in (must_take, units):
            refuses_in_order(self, call, good, wrongs)
        wrongs.append(("depth", WRONG_DEPTHS))
        for call in (low, low_paper):
            refuses_in_order(self, call, good, wrongs)
        wrongs.append(("paper", [(None, BadPaper, (None,)), ((None,), BadPaper, (("row", 0),))]))
        refuses_in_order(self, check_low, {**good, "paper": low_paper(FIELD, TOOLS)}, wrongs)


if __name__ == "__main__":
    unittest.main()
