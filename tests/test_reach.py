import itertools
import random
import unittest

from panelworks.errors import BadField, BadTools
from panelworks.reach import fewest, left, reached, steady, useless
from panelworks.tools import solid

from tests.helpers import (
    NO_FIELDS,
    NO_TOOLS,
    at,
    cells_of,
    field_from,
    least_stock,
    lowered,
    pits_from,
    places,
    refusal,
    stands_well,
    tools_from,
)

# A hole of one cell in a plate, a ditch of two, and a step.
FIELD = (3, ((3, 3, 3, 3, 3), (3, 0, 3, 1, 1), (3, 3, 3, 1, 1), (2, 2, 2, 2, 2)))
CALLS = (reached, steady, left, useless, fewest)


def round_of(field, tools, stock):
    """What a round leaves: all lowest stands by the stock ahead of it."""
    behind = stock
    for tool in tools:
        for place in places(field, tool):
            height = [z for z in range(field[0] + 1) if stands_well(field, stock, tool, place, z)][0]
            behind = lowered(behind, tool, place, height)
    return behind


class Reached(unittest.TestCase):
    def test_told(self):
        self.assertEqual(reached(FIELD, ((1, 6),)), FIELD)
        self.assertEqual(left(FIELD, ((1, 6),)), ())
        # The holder doesn't come into the plate; the wide one doesn't go into the hole.
        short = reached(field=FIELD, tools=((1, 1),))
        self.assertEqual(short, (3, ((3, 3, 3, 3, 3), (3, 2, 3, 2, 2), (3, 3, 3, 2, 1), (2, 2, 2, 2, 2))))
        wide = reached(FIELD, ((2, 6),))
        self.assertEqual(wide, (3, ((3, 3, 3, 3, 3), (3, 3, 3, 1, 1), (3, 3, 3, 1, 1), (2, 2, 2, 2, 2))))
        self.assertEqual(left(field=FIELD, tools=((2, 6),)), (((1, 1), 0, 3),))
        self.assertEqual(
            left(FIELD, ((1, 1),)), (((1, 1), 0, 2), ((3, 1), 1, 2), ((3, 2), 1, 2), ((4, 1), 1, 2))
        )

    def test_without_tools(self):
        self.assertEqual(reached(FIELD, ()), solid(FIELD))
        self.assertEqual(steady(FIELD, ()), [solid(FIELD)])
        self.assertEqual((useless(FIELD, ()), fewest(FIELD, ())), ((), ()))
        self.assertEqual(len(left(FIELD, ())), 10)
        plate = (2, ((2, 2), (2, 2)))
        self.assertEqual((reached(plate, ()), left(plate, ())), (plate, ()))

    def test_rounds(self):
        # From its border on, a block is taken away level by level.
        field = (3, ((0,) * 5,) * 5)
        tool = (1, 1)
        stocks = steady(field=field, tools=(tool,))
        self.assertEqual(stocks[0], solid(field))
        self.assertEqual(stocks[1], (3, ((2,) * 5,) * 5))
        self.assertEqual(stocks[-1], field)
        self.assertEqual(len(stocks), 4)
        self.assertEqual(steady(FIELD, ((1, 6),)), [solid(FIELD), FIELD])
        self.assertEqual(steady((1, ((1,),)), ((1, 6),)), [(1, ((1,),))])

    def test_by_chance(self):
        chance = random.Random(181)
        lengths = set()
        for _ in range(40):
            field = field_from(chance, most=5)
            tools = tools_from(chance)
            wanted = least_stock(field, tools)
            self.assertEqual(reached(field, tools), wanted)
            stocks = steady(field, tools)
            self.assertEqual(stocks[-1], wanted)
            self.assertEqual(round_of(field, tools, wanted), wanted)
            for one, other in zip(stocks, stocks[1:]):
                self.assertEqual(round_of(field, tools, one), other)
                self.assertNotEqual(one, other)
            lengths.add(len(stocks))
            rows = tuple(
                (cell, at(field, cell), at(wanted, cell))
                for cell in sorted(cells_of(field))
                if at(field, cell) != at(wanted, cell)
            )
            self.assertEqual(left(field, tools), rows)
            self.assertTrue(all(at(field, cell) <= at(wanted, cell) for cell in cells_of(field)))
        self.assertLessEqual({1, 2, 3}, lengths)

    def test_more_tools_reach_no_less(self):
        chance = random.Random(182)
        for _ in range(40):
            field = field_from(chance, most=6)
            tools = tools_from(chance, 4)
            stocks = [reached(field, tools[:many]) for many in range(5)]
            for one, other in zip(stocks, stocks[1:]):
                self.assertTrue(all(at(one, cell) >= at(other, cell) for cell in cells_of(field)))
            self.assertEqual(reached(field, tools[::-1]), stocks[-1])

    def test_two_reach_what_none_of_them_does(self):
        # The wide one takes away what would be in the way of the other one's holder.
        field = (4, ((4, 1, 0, 1), (4, 1, 1, 1)))
        self.assertEqual(reached(field, ((1, 1),)), (4, ((4, 3, 2, 1),) * 2))
        self.assertEqual(reached(field, ((2, 6),)), (4, ((4, 1, 1, 1),) * 2))
        self.assertEqual(reached(field, ((1, 1), (2, 6))), field)
        self.assertEqual(useless(field, ((1, 1), (2, 6))), ())


class OfUse(unittest.TestCase):
    def test_told(self):
        self.assertEqual(useless(FIELD, ((1, 6),)), ())
        self.assertEqual(useless(field=FIELD, tools=((2, 6), (1, 6), (1, 1))), ((2, 6), (1, 1)))
        # Each of two alike is of no use beside the other one.
        self.assertEqual(useless(FIELD, ((1, 6), (1, 5))), ((1, 6), (1, 5)))
        self.assertEqual(fewest(FIELD, ((1, 6), (1, 5))), ((1, 6),))
        self.assertEqual(fewest(field=FIELD, tools=((2, 6), (1, 5), (1, 6))), ((1, 5),))
        plate = (2, ((2, 2), (2, 2)))
        self.assertEqual(useless(plate, ((1, 1), (2, 2))), ((1, 1), (2, 2)))
        self.assertEqual(fewest(plate, ((1, 1), (2, 2))), ())

    def test_by_chance(self):
        chance = random.Random(184)
        met = {}
        for k in range(60):
            field = pits_from(chance)
            tools = tuple((side, min(6, side + chance.randint(0, 2))) for side in chance.sample((1, 2, 3, 4), k % 5))
            wanted = least_stock(field, tools)
            spare = tuple(
                tool for tool in tools if least_stock(field, tuple(one for one in tools if one != tool)) == wanted
            )
            self.assertEqual(useless(field, tools), spare)
            right = [
                some
                for many in range(len(tools) + 1)
                for some in itertools.combinations(range(len(tools)), many)
                if least_stock(field, tuple(tools[k] for k in some)) == wanted
            ]
            few = min(len(some) for some in right)
            first = min(some for some in right if len(some) == few)
            told = fewest(field, tools)
            self.assertEqual(told, tuple(tools[k] for k in first))
            self.assertEqual(useless(field, told), ())
            met[few] = met.get(few, 0) + 1
        self.assertLessEqual({0, 1, 2}, set(met))

    def test_the_first_by_their_numbers(self):
        # They are told in the order in which the tools stand, whichever are needed.
        chance = random.Random(185)
        met = set()
        for _ in range(150):
            tools = tuple((side, min(6, side + chance.randint(0, 2))) for side in chance.sample((1, 2, 3, 4), 4))
            told = fewest(pits_from(chance), tools)
            numbers = tuple(tools.index(tool) for tool in told)
            self.assertEqual(numbers, tuple(sorted(numbers)))
            met.add(numbers)
        self.assertLessEqual({(0,), (1,), (2,), (3,), (0, 1), (1, 3), (2, 3)}, met)


class Alone(unittest.TestCase):
    def test_lists_are_the_askers_own(self):
        stocks = steady(FIELD, ((1, 6),))
        stocks.clear()
        self.assertEqual(len(steady(FIELD, ((1, 6),))), 2)

    def test_refused(self):
        for call in CALLS:
            for field, place in NO_FIELDS:
                self.assertEqual(refusal(self, BadField, call, field, None).place, place)
            for thing in (None, True, 1, "a", "", [], [(1, 1)], {}, ((1, 1), (1, 2), (1, 3), (1, 4), (1, 5)), object()):
                self.assertIsNone(refusal(self, BadTools, call, FIELD, thing).number)
            for thing in NO_TOOLS:
                self.assertEqual(refusal(self, BadTools, call, FIELD, ((1, 1), thing)).number, 1)
            self.assertEqual(refusal(self, BadTools, call, FIELD, ((1, 1), (2, 2), (1, 1))).number, 2)


if __name__ == "__main__":
    unittest.main()
