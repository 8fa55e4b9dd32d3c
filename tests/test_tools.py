import random
import unittest

from panelworks.errors import BadField, BadTools, OutOfPlace
from panelworks.tools import (
    cells_under,
    lowest,
    may_stand,
    need_tools,
    places_of,
    places_over,
    ring_of,
    solid,
)
from panelworks.words import MOST_LENGTH, MOST_TOOL, MOST_TOOLS

from tests.helpers import (
    NO_FIELDS,
    NO_TOOLS,
    ODD_THINGS,
    cells_of,
    field_from,
    places,
    refusal,
    ring,
    stands_well,
    tools_from,
    under,
)

FIELD = (3, ((0, 1, 2, 3), (3, 2, 1, 0), (0, 0, 0, 0)))
SOLID = (3, ((3, 3, 3, 3),) * 3)
NO_PLACES = ODD_THINGS + ([0, 0], (0, 0, 0), (True, 0), (0, False), (0.0, 0), ("0", "0"))


def stock_from(chance, field):
    """A stock of a field by chance, sometimes below its targets."""
    return (field[0], tuple(tuple(chance.randint(0, field[0]) for _ in row) for row in field[1]))


class Tools(unittest.TestCase):
    def test_let_by(self):
        for tools in ((), ((1, 1),), ((4, 6), (1, 6), (4, 1), (2, 3)), ((1, 2), (2, 1))):
            self.assertIsNone(need_tools(tools))
        self.assertIsNone(need_tools(tools=((1, 1),)))
        self.assertEqual((MOST_TOOL, MOST_LENGTH, MOST_TOOLS), (4, 6, 4))

    def test_no_tuple_of_so_many(self):
        many = ((1, 1), (1, 2), (1, 3), (1, 4), (1, 5))
        for thing in (None, True, 1, "a", "", [], [(1, 1)], {}, {(1, 1)}, many, many[:4] + (None,), object()):
            self.assertIsNone(refusal(self, BadTools, need_tools, thing).number)
        self.assertIsNone(need_tools(many[:4]))

    def test_the_first_that_is_none(self):
        for thing in NO_TOOLS:
            self.assertEqual(refusal(self, BadTools, need_tools, (thing,)).number, 0)
            self.assertEqual(refusal(self, BadTools, need_tools, ((1, 1), thing, (1, 1), thing)).number, 1)
            self.assertEqual(refusal(self, BadTools, need_tools, ((1, 1), (2, 2), (1, 3), thing)).number, 3)
        self.assertEqual(refusal(self, BadTools, need_tools, (1, 1)).number, 0)

    def test_one_that_stands_there_already(self):
        self.assertEqual(refusal(self, BadTools, need_tools, ((1, 1), (1, 1))).number, 1)
        self.assertEqual(refusal(self, BadTools, need_tools, ((1, 1), (1, 2), (2, 1), (1, 2))).number, 3)
        self.assertEqual(refusal(self, BadTools, need_tools, ((1, 1), (1, 2), (1, 1), None)).number, 2)
        self.assertEqual(refusal(self, BadTools, need_tools, ((1, 1), None, (1, 1))).number, 1)


class Cells(unittest.TestCase):
    def test_inside(self):
        field = (1, ((0,) * 5,) * 5)
        self.assertEqual(cells_under(field, (1, 1), (2, 2)), ((2, 2),))
        self.assertEqual(
            ring_of(field, (1, 1), (2, 2)), ((1, 1), (1, 2), (1, 3), (2, 1), (2, 3), (3, 1), (3, 2), (3, 3))
        )
        self.assertEqual(cells_under(field=field, tool=(2, 1), place=(1, 2)), ((1, 2), (1, 3), (2, 2), (2, 3)))
        self.assertEqual(len(ring_of(field=field, tool=(2, 1), place=(1, 2))), 12)
        self.assertEqual(len(ring_of(field, (3, 1), (1, 1))), 16)
        wanted = ((0, 4), (1, 4), (2, 4), (3, 4), (4, 0), (4, 1), (4, 2), (4, 3), (4, 4))
        self.assertEqual(ring_of(field, (4, 1), (0, 0)), wanted)

    def test_over_the_border_and_at_corners(self):
        field = (1, ((0,) * 4,) * 3)
        self.assertEqual(cells_under(field, (2, 1), (-1, -1)), ((0, 0),))
        self.assertEqual(ring_of(field, (2, 1), (-1, -1)), ((0, 1), (1, 0), (1, 1)))
        self.assertEqual(cells_under(field, (2, 1), (3, 2)), ((3, 2),))
        self.assertEqual(ring_of(field, (2, 1), (3, 2)), ((2, 1), (2, 2), (3, 1)))
        self.assertEqual(cells_under(field, (4, 1), (-3, 1)), ((0, 1), (0, 2)))
        self.assertEqual(ring_of(field, (4, 1), (-3, 1)), ((0, 0), (1, 0), (1, 1), (1, 2)))
        self.assertEqual(cells_under(field, (4, 1), (0, -1)), tuple((i, j) for i in range(4) for j in range(3)))
        self.assertEqual(ring_of(field, (4, 1), (0, -1)), ())
        self.assertEqual(ring_of((1, ((0,),)), (1, 1), (0, 0)), ())

    def test_places(self):
        self.assertEqual(places_of((1, ((0, 0),)), (1, 1)), ((0, 0), (1, 0)))
        self.assertEqual(
            places_of(field=(1, ((0,),)), tool=(2, 1)), ((-1, -1), (-1, 0), (0, -1), (0, 0))
        )
        self.assertEqual(len(places_of((6, ((0,) * 8,) * 8), (4, 6))), 121)
        self.assertEqual(places_over(FIELD, (2, 1), (0, 0)), ((-1, -1), (-1, 0), (0, -1), (0, 0)))
        self.assertEqual(places_over(field=FIELD, tool=(1, 1), cell=(3, 2)), ((3, 2),))
        self.assertEqual(places_over(FIELD, (2, 1), (3, 2)), ((2, 1), (2, 2), (3, 1), (3, 2)))

    def test_by_chance(self):
        chance = random.Random(171)
        for _ in range(25):
            field = field_from(chance)
            for tool in tools_from(chance, 2):
                told = places_of(field, tool)
                self.assertEqual(told, tuple(sorted(places(field, tool))))
                for place in told:
                    self.assertEqual(cells_under(field, tool, place), tuple(sorted(under(field, tool, place))))
                    self.assertEqual(ring_of(field, tool, place), tuple(sorted(ring(field, tool, place))))
                cell = chance.choice(cells_of(field))
                over = tuple(place for place in told if cell in under(field, tool, place))
                self.assertEqual(places_over(field, tool, cell), over)


class Stands(unittest.TestCase):
    def test_told(self):
        # By the target, by the ring, by the bottom.
        self.assertIs(may_stand(FIELD, SOLID, (1, 3), (1, 0), 1), True)
        self.assertIs(may_stand(FIELD, SOLID, (1, 3), (1, 0), 0), False)
        self.assertEqual(lowest(FIELD, SOLID, (1, 3), (1, 0)), 1)
        self.assertIs(may_stand(FIELD, SOLID, (1, 2), (0, 0), 1), True)
        self.assertIs(may_stand(FIELD, SOLID, (1, 2), (0, 0), 0), False)
        self.assertEqual(lowest(FIELD, SOLID, (1, 2), (0, 0)), 1)
        self.assertEqual(lowest(field=FIELD, stock=SOLID, tool=(1, 6), place=(0, 0)), 0)
        self.assertIs(may_stand(field=FIELD, stock=SOLID, tool=(1, 6), place=(0, 0), height=0), True)
        # A corner alone is in the way; what is under it by the stock isn't, nor targets of the ring.
        stock = (3, ((3, 0, 0, 0), (0, 3, 0, 0), (0, 0, 0, 0)))
        self.assertEqual(lowest(((3, ((0,) * 4,) * 3)), stock, (1, 1), (0, 0)), 2)
        self.assertEqual(lowest(((3, ((0,) * 4,) * 3)), stock, (2, 1), (0, 0)), 0)
        flat = (3, ((0,) * 4,) * 3)
        self.assertEqual(lowest(FIELD, flat, (1, 1), (0, 0)), 0)
        self.assertEqual(lowest(FIELD, flat, (1, 1), (3, 0)), 3)
        self.assertEqual(lowest(FIELD, flat, (2, 1), (2, 0)), 3)
        self.assertIs(may_stand(FIELD, SOLID, (4, 1), (0, 0), 3), True)

    def test_by_chance(self):
        chance = random.Random(172)
        found = []
        for _ in range(60):
            field = field_from(chance)
            stock = stock_from(chance, field)
            for tool in tools_from(chance, 3):
                for place in chance.sample(places(field, tool), 3):
                    right = [stands_well(field, stock, tool, place, height) for height in range(field[0] + 1)]
                    told = [may_stand(field, stock, tool, place, height) for height in range(field[0] + 1)]
                    self.assertEqual(told, right)
                    self.assertEqual(lowest(field, stock, tool, place), right.index(True))
                    found.append(right.index(True))
        self.assertGreater(len(set(found)), 5)

    def test_solid(self):
        self.assertEqual(solid(FIELD), SOLID)
        self.assertEqual(solid(field=(6, ((0,),) * 8)), (6, ((6,),) * 8))


class Refused(unittest.TestCase):
    def test_fields(self):
        for field, place in NO_FIELDS:
            for call, more in (
                (cells_under, 2),
                (ring_of, 2),
                (places_of, 1),
                (places_over, 2),
                (may_stand, 4),
                (lowest, 3),
                (solid, 0),
            ):
                self.assertEqual(refusal(self, BadField, call, field, *[None] * more).place, place)
            for call, more in ((may_stand, 3), (lowest, 2)):
                self.assertEqual(refusal(self, BadField, call, FIELD, field, *[None] * more).place, place)

    def test_stocks_of_another_size(self):
        for call, more in ((may_stand, 3), (lowest, 2)):
            for stock, place in (
                ((2, ((2,) * 4,) * 3), "high"),
                ((4, ((2,) * 4,) * 3), "high"),
                ((4, ((2,) * 4,) * 2), "high"),
                ((3, ((2,) * 4,) * 2), "rows"),
                ((3, ((2,) * 3,) * 3), "rows"),
                ((3, ((2,) * 3,) * 4), "rows"),
                ((3, ((2,) * 12,)), 0),
                ((2, ((3,),)), 0),
                ((2, ()), "rows"),
            ):
                self.assertEqual(refusal(self, BadField, call, FIELD, stock, *[None] * more).place, place)

    def test_tools(self):
        for tool in NO_TOOLS:
            for call in (cells_under, ring_of, places_over):
                self.assertIsNone(refusal(self, BadTools, call, FIELD, tool, None).number)
            self.assertIsNone(refusal(self, BadTools, places_of, FIELD, tool).number)
            self.assertIsNone(refusal(self, BadTools, may_stand, FIELD, SOLID, tool, None, None).number)
            self.assertIsNone(refusal(self, BadTools, lowest, FIELD, SOLID, tool, None).number)

    def test_places_cells_and_heights(self):
        wrong = NO_PLACES + ((4, 0), (0, 3), (-2, 0), (0, -2), (4, 3))
        for place in wrong:
            for call in (cells_under, ring_of):
                refusal(self, OutOfPlace, call, FIELD, (2, 1), place)
            refusal(self, OutOfPlace, may_stand, FIELD, SOLID, (2, 1), place, 3)
            refusal(self, OutOfPlace, may_stand, FIELD, SOLID, (2, 1), place, None)
            refusal(self, OutOfPlace, lowest, FIELD, SOLID, (2, 1), place)
        for place in ((-1, 0), (0, -1)):
            refusal(self, OutOfPlace, cells_under, FIELD, (1, 1), place)
            self.assertEqual(len(cells_under(FIELD, (2, 1), place)), 2)
        for cell in NO_PLACES + ((4, 0), (0, 3), (-1, 0), (0, -1)):
            refusal(self, OutOfPlace, places_over, FIELD, (2, 1), cell)
        for height in ODD_THINGS + (-1, 4, 1.0):
            refusal(self, OutOfPlace, may_stand, FIELD, SOLID, (2, 1), (0, 0), height)


if __name__ == "__main__":
    unittest.main()
