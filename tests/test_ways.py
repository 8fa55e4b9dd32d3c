import random
import unittest

from panelworks.ways import gone, is_fit, left_by, made_way, plain_way, time_of

from tests.helpers import at, cells_of, field_from, least_stock, pits_from, places, refuses_in_order, ring
from tests.helpers import tools_from, under
from tests.stepping import (
    WRONG_DEPTHS,
    WRONG_FIELDS,
    WRONG_TOOLS,
    WRONG_WAYS,
    fit_by_words,
    left_by_words,
    rows_by_words,
    way_from,
)

FIELD = (3, ((3, 3, 3), (3, 0, 1), (3, 3, 3)))
TOOLS = ((1, 3),)
WAY = (("tool", 1, 3), ("go", 2, 1), ("down", 1), ("cut", 1, 1), ("down", 0))


def plain_by_words(field, tools, depth):
    """The plain way, straight by the words of the document."""
    high = field[0]
    stands = {cell: high for cell in cells_of(field)}
    seats = {tool: [(place, under(field, tool, place), ring(field, tool, place)) for place in places(field, tool)]
             for tool in tools}

    def lowest(tool, below, around):
        for height in range(high + 1):
            if all(at(field, cell) <= height for cell in below):
                if all(stands[cell] <= height + tool[1] for cell in around):
                    return height

    def goes(tool, below, around):
        return any(stands[cell] > lowest(tool, below, around) for cell in below)

    way = []
    while True:
        some = [tool for tool in tools if any(goes(tool, *seat[1:]) for seat in seats[tool])]
        if not some:
            return tuple(way)
        tool = sorted(some, key=lambda one: (-one[0], -one[1]))[0]
        way.append(("tool",) + tool)
        over = (0, 0)
        while any(goes(tool, *seat[1:]) for seat in seats[tool]):
            for place, below, around in seats[tool]:
                if goes(tool, below, around):
                    least = lowest(tool, below, around)
                    if over != place:
                        way.append(("go",) + place)
                    over, height = place, high
                    while height > least:
                        height = max(height - depth, least)
                        way.append(("down", height))
                    way.append(("up",))
                    for cell in below:
                        stands[cell] = min(stands[cell], least)


class Gone(unittest.TestCase):
    def test_told(self):
        rows = [(WAY[0], 20, 0), (WAY[1], 3, 0), (WAY[2], 4, 2), (WAY[3], 3, 2), (WAY[4], 2, 1)]
        self.assertEqual(gone(FIELD, WAY), rows)
        self.assertIs(type(gone(FIELD, WAY)), list)
        self.assertEqual(time_of(FIELD, WAY), 32)
        self.assertEqual(left_by(FIELD, WAY), FIELD)
        self.assertEqual((gone(FIELD, ()), time_of(FIELD, ()), left_by(FIELD, ())), ([], 0, (3, ((3,) * 3,) * 3)))
        # What stood in the field is no part of it: only its height and size are.
        self.assertEqual(left_by((3, ((0,) * 3,) * 3), WAY), FIELD)

    def test_a_step_is_refused(self):
        for way in (WAY[1:], WAY[:2] + WAY[3:], WAY + (("go", 0, 0),), (("up",),), WAY[:2] + (("down", 0),)):
            for call in (gone, left_by, time_of):
                self.assertIsNone(call(FIELD, way))
        for call in (gone, left_by, time_of):
            self.assertIsNone(call(FIELD, WAY, depth=1))
            self.assertIsNotNone(call(field=FIELD, way=WAY, depth=3))

    def test_depth_is_by_name(self):
        way = (("tool", 1, 6), ("down", 0))
        for high in range(1, 7):
            field = (high, ((0,),))
            for depth in range(1, 7):
                told = [(way[0], 20, 0), (way[1], 2 * high, high)]
                self.assertEqual(gone(field, way, depth=depth), told if depth >= high else None)
        for call in (gone, left_by, time_of):
            with self.assertRaises(TypeError):
                call(FIELD, WAY, 2)
        for call in (plain_way, made_way):
            with self.assertRaises(TypeError):
                call(FIELD, TOOLS, 2)
        with self.assertRaises(TypeError):
            is_fit(FIELD, TOOLS, WAY, 2)

    def test_by_chance(self):
        chance = random.Random(301)
        met = [0, 0]
        for _ in range(120):
            field, depth = field_from(chance, most=4), chance.randint(1, 6)
            way = way_from(chance, field, depth, chance.randint(0, 25), wrong=chance.choice((0, 0, 0.05)))
            rows = rows_by_words(field, way, depth)
            whole = len(rows) == len(way)
            met[whole] += 1
            told = [(step, time, taken) for step, (_, time, taken) in zip(way, rows)]
            self.assertEqual(gone(field, way, depth=depth), told if whole else None)
            self.assertEqual(time_of(field, way, depth=depth), sum(row[1] for row in told) if whole else None)
            left = left_by_words(field, way, depth)
            self.assertEqual(left_by(field, way, depth=depth), left if whole else None)
        self.assertGreater(min(met), 20)


class PlainWay(unittest.TestCase):
    def test_told(self):
        way = (
            ("tool", 1, 3),
            ("go", 1, 1),
            ("down", 1),
            ("down", 0),
            ("up",),
            ("go", 2, 1),
            ("down", 1),
            ("up",),
        )
        self.assertEqual(plain_way(FIELD, TOOLS), way)
        deep = plain_way(field=FIELD, tools=TOOLS, depth=3)
        self.assertEqual(deep, way[:2] + way[3:])
        shallow = plain_way(FIELD, TOOLS, depth=1)
        self.assertEqual(shallow[2:5], (("down", 2), ("down", 1), ("down", 0)))
        # The wide ones first, of like ones the long one; it is over (0, 0) when it is taken.
        field = (2, ((1, 1), (1, 1)))
        self.assertEqual(plain_way(field, ((1, 6), (2, 1), (2, 5)))[0], ("tool", 2, 5))
        self.assertEqual(plain_way((1, ((0,),)), ((1, 1),)), (("tool", 1, 1), ("down", 0), ("up",)))

    def test_tools_in_turn(self):
        # The wide one goes ahead, then the narrow one into the corner, and nothing is left for the wide one.
        field = (2, ((2, 2, 2, 2), (2, 0, 0, 2), (2, 0, 0, 2), (2, 2, 0, 2)))
        way = plain_way(field, ((1, 2), (2, 2)))
        self.assertEqual([step[1:] for step in way if step[0] == "tool"], [(2, 2), (1, 2)])
        # A holder that is in the way comes further when another tool has been there.
        again = plain_way((6, ((6, 6, 6), (0, 0, 0), (0, 0, 0))), ((2, 1), (1, 5)))
        self.assertEqual([step[1:] for step in again if step[0] == "tool"], [(2, 1), (1, 5)])

    def test_nothing_to_go(self):
        solid = (2, ((2, 2), (2, 2)))
        narrow = (2, ((2, 2, 2), (2, 0, 2), (2, 2, 2)))
        for field, tools in ((solid, ()), (solid, ((1, 1), (4, 6))), (FIELD, ()), (narrow, ((2, 6), (3, 1)))):
            for depth in (1, 2, 6):
                self.assertEqual(plain_way(field, tools, depth=depth), ())
                self.assertEqual(made_way(field, tools, depth=depth), ())
            self.assertIs(is_fit(field, tools, ()), True)

    def test_by_chance(self):
        chance = random.Random(303)
        for _ in range(80):
            field, tools, depth = field_from(chance, most=6), tools_from(chance), chance.randint(1, 6)
            self.assertEqual(plain_way(field, tools, depth=depth), plain_by_words(field, tools, depth))
        for _ in range(20):
            field, tools, depth = pits_from(chance), tools_from(chance, 4), chance.randint(1, 6)
            self.assertEqual(plain_way(field, tools, depth=depth), plain_by_words(field, tools, depth))

    def test_the_least_and_the_greatest(self):
        chance = random.Random(304)
        fields = [(1, ((0,),)), (6, ((0,),)), (6, ((0,) * 8,) * 8), (6, ((0,) * 8,)), (3, ((1,),) * 8)]
        fields.append((6, tuple(tuple(chance.randint(0, 6) for _ in range(8)) for _ in range(8))))
        for field in fields:
            for tools in (((1, 1),), ((4, 6), (3, 1), (2, 2), (1, 4))):
                way = plain_way(field, tools)
                self.assertEqual(way, plain_by_words(field, tools, 2))
                self.assertTrue(fit_by_words(field, tools, way, 2))


class Fit(unittest.TestCase):
    def fields(self, chance):
        for _ in range(40):
            yield field_from(chance, most=5), tools_from(chance, chance.randint(0, 4)), chance.randint(1, 6)
        for _ in range(15):
            yield pits_from(chance), tools_from(chance, chance.randint(1, 4)), chance.randint(1, 6)
        yield (6, ((0,) * 8,) * 8), ((4, 1), (1, 1)), 2
        yield (6, tuple(tuple(chance.randint(0, 6) for _ in range(8)) for _ in range(8))), ((2, 2), (1, 2)), 1

    def test_plain_and_made_ways(self):
        less = 0
        for field, tools, depth in self.fields(random.Random(305)):
            plain, made = plain_way(field, tools, depth=depth), made_way(field, tools, depth=depth)
            self.assertIs(type(made), tuple)
            for way in (plain, made):
                self.assertTrue(fit_by_words(field, tools, way, depth))
                self.assertIs(is_fit(field, tools, way, depth=depth), True)
            times = [sum(row[1] for row in rows_by_words(field, way, depth)) for way in (made, plain)]
            self.assertLessEqual(times[0], times[1])
            less += times[0] < times[1]
            if least_stock(field, tools) == left_by(field, ()):
                self.assertEqual((plain, made), ((), ()))
        self.assertGreater(less, 20)

    def test_a_made_way_where_cuts_take_longer(self):
        for field, tools, depth in (
            ((1, ((0, 1, 0, 0), (1, 1, 1, 1), (1, 0, 1, 0), (1, 1, 1, 0))), ((4, 4),), 2),
            ((4, ((1, 1, 4), (2, 1, 1), (1, 4, 4), (4, 4, 4))), ((1, 1), (1, 6), (1, 2)), 1),
            ((3, ((1,), (2,), (1,), (3,))), ((1, 6), (1, 5)), 1),
        ):
            made = made_way(field, tools, depth=depth)
            self.assertTrue(fit_by_words(field, tools, made, depth))
            plain = plain_way(field, tools, depth=depth)
            self.assertLessEqual(time_of(field, made, depth=depth), time_of(field, plain, depth=depth))

    def test_told(self):
        self.assertIs(is_fit(FIELD, TOOLS, WAY), True)
        self.assertIs(is_fit(field=FIELD, tools=((2, 2), (1, 3)), way=WAY, depth=2), True)
        self.assertIs(is_fit(FIELD, TOOLS, WAY, depth=1), False)
        # Another tool that would do as well is none of these.
        self.assertIs(is_fit(FIELD, ((1, 4),), WAY), False)
        self.assertIs(is_fit(FIELD, TOOLS, (("tool", 1, 4),) + WAY[1:]), False)
        # Even one that is only taken.
        self.assertIs(is_fit(FIELD, TOOLS, (("tool", 1, 4),) + WAY), False)
        self.assertIs(is_fit(FIELD, TOOLS + ((1, 4),), (("tool", 1, 4),) + WAY), True)
        # More, and less, than what is reached.
        self.assertIs(is_fit(FIELD, TOOLS, WAY[:-1]), False)
        self.assertIs(is_fit(FIELD, TOOLS, ()), False)
        self.assertIs(is_fit(FIELD, TOOLS, WAY + (("cut", 2, 1),)), False)
        self.assertIs(is_fit(FIELD, TOOLS, WAY + (("up",), ("go", 0, 0), ("up",))), False)
        self.assertIs(is_fit(FIELD, TOOLS, WAY + (("up",), ("go", 0, 0))), True)

    def test_spoilt(self):
        chance = random.Random(306)
        met = [0, 0]
        for _ in range(60):
            field, tools = field_from(chance, most=4), tools_from(chance, chance.randint(1, 3))
            way = made_way(field, tools)
            if not way:
                continue
            for _ in range(6):
                k, m = chance.randrange(len(way)), chance.randrange(len(way))
                exchanged = list(way)
                exchanged[k], exchanged[m] = way[m], way[k]
                other = chance.choice((("tool", 1, 6), ("up",), ("down", chance.randint(0, 5)), ("cut", 0, 0)))
                spoilt = (
                    way[:k] + way[k + 1:],
                    way[:k] + way[k:k + 1] + way[k:],
                    tuple(exchanged),
                    way[:k] + (other,) + way[k + 1:],
                    way[:k] + (other,) + way[k:],
                )
                for one in spoilt:
                    wanted = fit_by_words(field, tools, one, 2)
                    met[wanted] += 1
                    self.assertIs(is_fit(field, tools, one), wanted)
        self.assertGreater(min(met), 30)


class Refused(unittest.TestCase):
    def test_in_order(self):
        wrongs = [("field", WRONG_FIELDS), ("depth", WRONG_DEPTHS), ("way", WRONG_WAYS)]
        for call in (gone, left_by, time_of):
            refuses_in_order(self, call, {"field": FIELD, "way": WAY}, wrongs)
        wrongs.insert(1, ("tools", WRONG_TOOLS))
        refuses_in_order(self, is_fit, {"field": FIELD, "tools": TOOLS, "way": WAY}, wrongs)
        for call in (plain_way, made_way):
            refuses_in_order(self, call, {"field": FIELD, "tools": TOOLS}, wrongs[:3])


if __name__ == "__main__":
    unittest.main()
