import random
import unittest

from panelworks.errors import BadField, BadTools, Blocked, Nothing, NoTool, OutOfPlace
from panelworks.reach import reached
from panelworks.stock import Stock

from tests.helpers import (
    NO_FIELDS,
    NO_TOOLS,
    ODD_THINGS,
    at,
    field_from,
    least_stock,
    lowered,
    places,
    refusal,
    ring,
    stands_well,
    tools_from,
    under,
)

FIELD = (3, ((0, 1, 2), (0, 1, 2), (0, 0, 0)))
SOLID = (3, ((3, 3, 3),) * 3)
TOOLS = ((1, 2), (2, 6))


class Told(unittest.TestCase):
    def test_at_first(self):
        stock = Stock(FIELD, TOOLS)
        self.assertEqual((stock.field(), stock.stands(), len(stock)), (SOLID, [], 0))
        self.assertIs(stock.is_reached(), False)
        self.assertIs(Stock(FIELD, ()).is_reached(), True)
        self.assertIs(Stock(field=SOLID, tools=TOOLS).is_reached(), True)

    def test_stands(self):
        stock = Stock(FIELD, TOOLS)
        self.assertEqual(stock.stand((2, 6), (0, 0), 1), 4)
        self.assertEqual(stock.field(), (3, ((1, 1, 3), (1, 1, 3), (3, 3, 3))))
        self.assertEqual(stock.stand(tool=(2, 6), place=(0, 1), height=1), 2)
        self.assertEqual(stock.stand((2, 6), (0, 1), 1), 0)
        self.assertEqual(stock.stand((2, 6), (-1, 0), 0), 2)
        self.assertEqual(stock.field(), (3, ((0, 1, 3), (0, 1, 3), (1, 1, 3))))
        self.assertEqual(stock.stand((1, 2), (2, 2), 3), 0)
        self.assertEqual(len(stock), 5)
        stands = [
            ((2, 6), (0, 0), 1),
            ((2, 6), (0, 1), 1),
            ((2, 6), (0, 1), 1),
            ((2, 6), (-1, 0), 0),
            ((1, 2), (2, 2), 3),
        ]
        self.assertEqual(stock.stands(), stands)
        self.assertEqual(stock.back(), stands[4])
        self.assertEqual(stock.back(), stands[3])
        self.assertEqual(stock.field(), (3, ((1, 1, 3), (1, 1, 3), (1, 1, 3))))
        self.assertEqual(stock.stands(), stands[:3])
        self.assertEqual([stock.back() for _ in range(3)], stands[2::-1])
        self.assertEqual((stock.field(), len(stock)), (SOLID, 0))
        refusal(self, Nothing, stock.back)
        self.assertEqual(stock.stand((2, 6), (0, 0), 1), 4)

    def test_by_chance(self):
        chance = random.Random(191)
        for _ in range(25):
            field = field_from(chance, most=5)
            tools = tools_from(chance, chance.randint(1, 4))
            stock, wanted, stands = Stock(field, tools), [Stock(field, ()).field()], []
            least = least_stock(field, tools)
            for _ in range(25):
                tool = chance.choice(tools)
                stand = (tool, chance.choice(places(field, tool)), chance.randint(0, field[0]))
                if chance.random() < 0.2 and stands:
                    self.assertEqual(stock.back(), stands.pop())
                    wanted.pop()
                elif stands_well(field, wanted[-1], *stand):
                    behind = lowered(wanted[-1], *stand)
                    many = sum(one != other for pair in zip(behind[1], wanted[-1][1]) for one, other in zip(*pair))
                    self.assertEqual(stock.stand(*stand), many)
                    wanted.append(behind)
                    stands.append(stand)
                else:
                    high = [cell for cell in sorted(under(field, *stand[:2])) if at(field, cell) > stand[2]]
                    high += [
                        cell for cell in sorted(ring(field, *stand[:2])) if at(wanted[-1], cell) > stand[2] + tool[1]
                    ]
                    self.assertEqual(refusal(self, Blocked, stock.stand, *stand).place, high[0])
                self.assertEqual(stock.field(), wanted[-1])
                self.assertEqual(stock.stands(), stands)
                self.assertEqual(len(stock), len(stands))
                self.assertIs(stock.is_reached(), wanted[-1] == least)

    def test_till_it_is_reached(self):
        chance = random.Random(192)
        for _ in range(20):
            field = field_from(chance, most=4)
            tools = tools_from(chance, 2)
            stock = Stock(field, tools)
            wanted = least_stock(field, tools)
            self.assertEqual(reached(field, tools), wanted)
            ahead = None
            while ahead != stock.field():
                self.assertIs(stock.is_reached(), stock.field() == wanted)
                ahead = stock.field()
                for tool in tools:
                    for place in places(field, tool):
                        for height in range(field[0] + 1):
                            if stands_well(field, stock.field(), tool, place, height):
                                stock.stand(tool, place, height)
                                break
            self.assertEqual(stock.field(), wanted)
            self.assertIs(stock.is_reached(), True)


class Like(unittest.TestCase):
    def test_equal(self):
        one, other = Stock(FIELD, TOOLS), Stock(FIELD, TOOLS[::-1])
        self.assertTrue(one == other)
        self.assertFalse(one != other)
        one.stand((2, 6), (0, 0), 1)
        self.assertFalse(one == other)
        self.assertTrue(one != other)
        for place in ((1, 1), (0, 1), (1, 0), (0, 0)):
            other.stand((1, 2), place, 1)
        self.assertTrue(one == other)
        self.assertNotEqual(len(one), len(other))
        other.stand((1, 2), (2, 2), 2)
        other.back()
        self.assertTrue(one == other)

    def test_unlike(self):
        stock = Stock(FIELD, TOOLS)
        self.assertFalse(stock == Stock(FIELD, TOOLS[:1]))
        self.assertFalse(stock == Stock(FIELD, TOOLS + ((1, 1),)))
        self.assertFalse(stock == Stock((3, ((0, 1, 2), (0, 1, 2), (0, 0, 1))), TOOLS))
        self.assertFalse(Stock((1, ((0, 0),)), ()) == Stock((1, ((0,), (0,))), ()))
        for thing in ODD_THINGS + (FIELD, SOLID, stock.field()):
            self.assertIs(stock == thing, False)
            self.assertIs(stock != thing, True)
            self.assertIs(thing == stock, False)

    def test_copied(self):
        stock = Stock(FIELD, TOOLS)
        stock.stand((2, 6), (0, 0), 1)
        copy = stock.copied()
        self.assertTrue(copy == stock)
        self.assertIsInstance(copy, Stock)
        self.assertEqual((copy.stands(), len(copy)), (stock.stands(), 1))
        copy.stand((1, 2), (2, 2), 1)
        self.assertEqual((len(stock), len(copy)), (1, 2))
        self.assertFalse(copy == stock)
        stock.back()
        self.assertEqual((stock.field(), stock.stands()), (SOLID, []))
        self.assertEqual(copy.back(), ((1, 2), (2, 2), 1))
        self.assertEqual(copy.back(), ((2, 6), (0, 0), 1))
        refusal(self, Nothing, copy.back)
        self.assertTrue(copy == stock)

    def test_what_is_told_is_the_askers_own(self):
        stock = Stock(FIELD, TOOLS)
        stock.stand((2, 6), (0, 0), 1)
        told = stock.stands()
        told.append(None)
        told[0] = None
        self.assertEqual(stock.stands(), [((2, 6), (0, 0), 1)])
        self.assertEqual(len(stock), 1)
        stock.stand((2, 6), (0, 1), 1)
        self.assertEqual(told, [None, None])
        self.assertEqual(stock.back(), ((2, 6), (0, 1), 1))


class Refused(unittest.TestCase):
    def test_made_of(self):
        for field, place in NO_FIELDS:
            self.assertEqual(refusal(self, BadField, Stock, field, None).place, place)
        for thing in (None, True, 1, "a", [], [(1, 1)], {}, ((1, 1), (1, 2), (1, 3), (1, 4), (1, 5))):
            self.assertIsNone(refusal(self, BadTools, Stock, FIELD, thing).number)
        for thing in NO_TOOLS:
            self.assertEqual(refusal(self, BadTools, Stock, FIELD, ((1, 1), thing)).number, 1)
        self.assertEqual(refusal(self, BadTools, Stock, FIELD, ((1, 1), (2, 1), (1, 1))).number, 2)

    def test_stands_in_their_order(self):
        stock = Stock(FIELD, TOOLS)
        stock.stand((2, 6), (0, 0), 1)
        ahead = stock.copied()
        for thing in NO_TOOLS:
            self.assertIsNone(refusal(self, BadTools, stock.stand, thing, None, None).number)
        for tool in ((1, 1), (2, 2), (4, 6), (2, 1)):
            self.assertEqual(refusal(self, NoTool, stock.stand, tool, None, None).tool, tool)
        for place in ODD_THINGS + ([0, 0], (0, 0, 0), (True, 0), (0.0, 0), (-2, 0), (0, -2), (3, 0), (0, 3)):
            refusal(self, OutOfPlace, stock.stand, (2, 6), place, None)
            refusal(self, OutOfPlace, stock.stand, (2, 6), place, 0)
        refusal(self, OutOfPlace, stock.stand, (1, 2), (-1, 0), 3)
        for height in ODD_THINGS + (-1, 4, 1.0):
            refusal(self, OutOfPlace, stock.stand, (2, 6), (0, 0), height)
        self.assertEqual((stock.field(), stock.stands()), (ahead.field(), ahead.stands()))

    def test_blocked(self):
        stock = Stock(FIELD, ((1, 1), (2, 1), (2, 6)))
        # The first target under it, though its ring stands too high, too.
        self.assertEqual(refusal(self, Blocked, stock.stand, (2, 1), (1, 0), 0).place, (1, 0))
        self.assertEqual(refusal(self, Blocked, stock.stand, (2, 1), (1, 1), 1).place, (2, 1))
        self.assertEqual(refusal(self, Blocked, stock.stand, (2, 6), (1, 1), 0).place, (1, 1))
        # The first of the ring.
        self.assertEqual(refusal(self, Blocked, stock.stand, (2, 1), (0, 0), 1).place, (0, 2))
        self.assertEqual(refusal(self, Blocked, stock.stand, (1, 1), (0, 2), 1).place, (0, 1))
        self.assertEqual(refusal(self, Blocked, stock.stand, (1, 1), (1, 2), 0).place, (0, 1))
        self.assertEqual((stock.field(), len(stock)), (SOLID, 0))
        stock.stand((2, 6), (-1, 0), 0)
        stock.stand((2, 6), (-1, 1), 0)
        # By the stock, not by the targets: what was lowered is in the way no longer.
        self.assertEqual(refusal(self, Blocked, stock.stand, (1, 1), (1, 2), 0).place, (1, 1))
        self.assertEqual(len(stock), 2)


if __name__ == "__main__":
    unittest.main()
