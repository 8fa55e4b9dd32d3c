import random
import unittest

from panelworks.errors import BadField, BadPaper, BadTools
from panelworks.reachpaper import check_reach, reach_paper
from panelworks.tools import solid

from tests.helpers import (
    NO_FIELDS,
    NO_TOOLS,
    ODD_THINGS,
    at,
    cells_of,
    field_from,
    least_stock,
    lowered,
    pits_from,
    places,
    refusal,
    ring,
    stands_well,
    tools_from,
    under,
)

# A plate with a hole of one cell: the wide tool is kept out by targets, the short one by the plate.
FIELD = (3, ((3, 3, 3), (3, 0, 3), (3, 3, 3)))
TOOLS = ((1, 1), (2, 6))
STANDS = (((1, 1), (1, 1), 2),)
ROWS = (
    ((1, 1), (1, 1), (0, 0)),
    ((2, 6), (0, 0), (0, 0)),
    ((2, 6), (0, 1), (0, 2)),
    ((2, 6), (1, 0), (1, 0)),
    ((2, 6), (1, 1), (1, 2)),
)
WHYS = (((1, 1), ROWS),)
SHOWN = (3, ((3, 3, 3), (3, 2, 3), (3, 3, 3)))


def stands_from(chance, field, tools):
    """Any row of stands that comes to what is reached."""
    wanted = least_stock(field, tools)
    stock, found = solid(field), []
    seats = [(tool, place) for tool in tools for place in places(field, tool)]
    while stock != wanted:
        chance.shuffle(seats)
        for tool, place in seats:
            right = [z for z in range(field[0] + 1) if stands_well(field, stock, tool, place, z)]
            height = chance.choice((right[0], right[0], right[0], chance.choice(right)))
            behind = lowered(stock, tool, place, height)
            if behind != stock or chance.random() < 0.05:
                found.append((tool, place, height))
                stock = behind
    return tuple(found), stock


def forbidding(field, stock, tool, place, cell):
    """All cells that forbid a tool at a place to take from a cell, by the words of the document."""
    height = at(stock, cell)
    return [other for other in under(field, tool, place) if at(field, other) >= height] + [
        other for other in ring(field, tool, place) if at(stock, other) >= height + tool[1]
    ]


def whys_from(chance, field, tools, stock):
    """Any reasons for all that is left."""
    found = []
    for cell in sorted(cells_of(field)):
        if at(stock, cell) > at(field, cell):
            rows = []
            for tool in tools:
                for place in sorted(places(field, tool)):
                    if cell in under(field, tool, place):
                        rows.append((tool, place, chance.choice(forbidding(field, stock, tool, place, cell))))
            found.append((cell, tuple(rows)))
    return tuple(found)


class Told(unittest.TestCase):
    def test_let_by(self):
        self.assertEqual(check_reach(FIELD, TOOLS, (STANDS, WHYS)), SHOWN)
        self.assertEqual(check_reach(field=FIELD, tools=TOOLS, paper=reach_paper(field=FIELD, tools=TOOLS)), SHOWN)
        self.assertEqual(check_reach(FIELD, (), ((), (((1, 1), ()),))), solid(FIELD))
        self.assertEqual(reach_paper(FIELD, ()), ((), (((1, 1), ()),)))
        self.assertEqual(check_reach(FIELD, ((1, 6),), ((((1, 6), (1, 1), 0),), ())), FIELD)
        plate = (2, ((2,),))
        self.assertEqual(reach_paper(plate, TOOLS), ((), ()))
        self.assertEqual(check_reach(plate, TOOLS, ((), ())), plate)
        # Stands that take nothing away, or less than they may, are right too.
        more = (((2, 6), (-1, -1), 3),) + STANDS + STANDS + (((1, 1), (1, 1), 3),)
        self.assertEqual(check_reach(FIELD, TOOLS, (more, WHYS)), SHOWN)

    def test_by_chance(self):
        chance = random.Random(201)
        many = 0
        for _ in range(50):
            field = chance.choice((pits_from, field_from))(chance)
            field = (field[0], tuple(row[:4] for row in field[1][:4]))
            tools = tools_from(chance)
            wanted = least_stock(field, tools)
            told = reach_paper(field, tools)
            self.assertEqual(check_reach(field, tools, told), wanted)
            stands, stock = stands_from(chance, field, tools)
            self.assertEqual(stock, wanted)
            whys = whys_from(chance, field, tools, stock)
            self.assertEqual(check_reach(field, tools, (stands, whys)), wanted)
            many += len(whys) > 0 and len(stands) > 0
        self.assertGreater(many, 8)


class Spoilt(unittest.TestCase):
    def refused(self, paper, place, field=FIELD, tools=TOOLS):
        self.assertEqual(refusal(self, BadPaper, check_reach, field, tools, paper).place, place)

    def test_form(self):
        for thing in ODD_THINGS + ((STANDS,), (STANDS, WHYS, ()), [STANDS, WHYS], (list(STANDS), WHYS), (STANDS, [])):
            self.refused(thing, None)
        self.refused(((None,), list(WHYS)), None)

    def test_stands(self):
        good = STANDS[0]
        wrong = ODD_THINGS + (
            good[:2],
            good + (1,),
            list(good),
            ((1, 2), (1, 1), 2),
            ((2, 1), (1, 1), 2),
            ([1, 1], (1, 1), 2),
            ((True, 1), (1, 1), 2),
            (None, (1, 1), 2),
            ((1, 1), (3, 1), 3),
            ((1, 1), (-1, 1), 3),
            ((2, 6), (-2, 1), 3),
            ((1, 1), [1, 1], 2),
            ((1, 1), (True, True), 2),
            ((1, 1), None, 2),
            ((1, 1), (1, 1), 4),
            ((1, 1), (1, 1), -1),
            ((1, 1), (1, 1), True),
            ((1, 1), (1, 1), None),
            # The ring, a target.
            ((1, 1), (1, 1), 1),
            ((2, 6), (1, 1), 2),
        )
        for thing in wrong:
            self.refused(((thing,), WHYS), ("stand", 0))
            self.refused((STANDS + (thing, thing), ()), ("stand", 1))
            self.refused((STANDS * 3 + (thing,) + STANDS, (None,)), ("stand", 3))

    def test_stands_in_another_order(self):
        field = (4, ((4, 1, 0, 1), (4, 1, 1, 1)))
        stands = (((2, 6), (1, 0), 1), ((2, 6), (2, 0), 1), ((1, 1), (2, 0), 0))
        self.assertEqual(check_reach(field, TOOLS, (stands, ())), field)
        self.refused((stands[::-1], ()), ("stand", 0), field)
        self.refused((stands[:1] + stands[2:], ()), ("stand", 1), field)
        self.refused((stands[:2], ()), ("why", 0), field)

    def test_whys(self):
        good = WHYS[0]
        wrong = ODD_THINGS + (
            good[:1],
            good + ((),),
            list(good),
            ((1, 0), ROWS),
            ([1, 1], ROWS),
            ((True, 1), ROWS),
            ((1, 1), list(ROWS)),
            ((1, 1), None),
            ((1, 1), ()),
            ((1, 1), ROWS[:4]),
            ((1, 1), ROWS[1:]),
            ((1, 1), ROWS + ROWS[4:]),
            ((1, 1), ROWS[:1] + ROWS),
            ((1, 1), ROWS[1:] + ROWS[:1]),
            ((1, 1), ROWS[::-1]),
            ((1, 1), (ROWS[0], ROWS[2], ROWS[1]) + ROWS[3:]),
        )
        row = ROWS[1]
        others = ODD_THINGS + (
            row[:2],
            row + (1,),
            list(row),
            ((1, 1), row[1], row[2]),
            ((2, True), row[1], row[2]),
            (row[0], (0, 1), row[2]),
            (row[0], (False, 0), row[2]),
            (row[0], [0, 0], row[2]),
            (row[0], row[1], (2, 2)),
            (row[0], row[1], (1, 1)),
            (row[0], row[1], (3, 3)),
            (row[0], row[1], (-1, 0)),
            (row[0], row[1], [0, 0]),
            (row[0], row[1], (False, 0)),
            (row[0], row[1], None),
        )
        wrong += tuple(((1, 1), (ROWS[0], other) + ROWS[2:]) for other in others)
        wrong += tuple(((1, 1), ((tool,) + ROWS[0][1:],) + ROWS[1:]) for tool in ((True, 1), (1, True), [1, 1], None))
        # The ring of the short one: only what stands so much higher forbids.
        wrong += (((1, 1), (ROWS[0][:2] + ((1, 1),),) + ROWS[1:]),)
        for thing in wrong:
            self.refused((STANDS, (thing,)), ("why", 0))
            self.refused((STANDS, (thing, None)), ("why", 0))
        self.refused((STANDS, ()), ("why", 0))
        self.refused((STANDS, WHYS * 2), ("why", 1))
        self.refused((STANDS, WHYS + (None,)), ("why", 1))

    def test_any_that_forbids(self):
        for row in ((0, 0), (1, 0), (0, 1)):
            rows = (ROWS[0], ((2, 6), (0, 0), row)) + ROWS[2:]
            self.assertEqual(check_reach(FIELD, TOOLS, (STANDS, (((1, 1), rows),))), SHOWN)
        for other in ((0, 2), (2, 2), (2, 1), (1, 0)):
            rows = (((1, 1), (1, 1), other),) + ROWS[1:]
            self.assertEqual(check_reach(FIELD, TOOLS, (STANDS, (((1, 1), rows),))), SHOWN)

    def test_what_is_not_reached_has_no_why(self):
        self.refused(((), WHYS), ("why", 0))
        self.refused(((((1, 1), (1, 1), 3),), WHYS), ("why", 0))

    def test_several_cells(self):
        field = (3, ((3, 0, 3, 0, 3),))
        stands = (((1, 1), (1, 0), 2), ((1, 1), (3, 0), 2))
        whys = (((1, 0), (((1, 1), (1, 0), (0, 0)),)), ((3, 0), (((1, 1), (3, 0), (4, 0)),)))
        tools = ((1, 1),)
        self.assertEqual(check_reach(field, tools, (stands, whys)), (3, ((3, 2, 3, 2, 3),)))
        self.refused((stands, whys[::-1]), ("why", 0), field, tools)
        self.refused((stands, whys[:1]), ("why", 1), field, tools)
        self.refused((stands, whys[1:]), ("why", 0), field, tools)
        self.refused((stands, whys[:1] * 2), ("why", 1), field, tools)
        self.refused((stands, whys + whys[1:]), ("why", 2), field, tools)
        self.refused((stands, whys[:1] + (((3, 0), (((1, 1), (3, 0), (1, 0)),)),)), ("why", 1), field, tools)

    def test_by_chance(self):
        chance = random.Random(202)
        met = set()
        for _ in range(60):
            field = pits_from(chance)
            tools = tools_from(chance, chance.randint(1, 2))
            stands, stock = stands_from(chance, field, tools)
            whys = list(whys_from(chance, field, tools, stock))
            if not whys:
                continue
            number = chance.randrange(len(whys))
            cell, rows = whys[number]
            if chance.random() < 0.5:
                del whys[number]
                wanted = number
            else:
                which = chance.randrange(len(rows))
                tool, place, _ = rows[which]
                other = chance.choice(cells_of(field))
                whys[number] = (cell, rows[:which] + ((tool, place, other),) + rows[which + 1:])
                if other in forbidding(field, stock, tool, place, cell):
                    self.assertEqual(check_reach(field, tools, (stands, tuple(whys))), stock)
                    met.add("right")
                    continue
                wanted = number
            self.refused((stands, tuple(whys)), ("why", wanted), field, tools)
            met.add(wanted)
        self.assertLessEqual({"right", 0, 1, 3}, met)

    def test_first(self):
        for field, place in NO_FIELDS:
            self.assertEqual(refusal(self, BadField, reach_paper, field, None).place, place)
            self.assertEqual(refusal(self, BadField, check_reach, field, None, None).place, place)
        for thing in NO_TOOLS:
            for tools, number in (((TOOLS[0], thing), 1), ((thing, thing), 0)):
                self.assertEqual(refusal(self, BadTools, reach_paper, FIELD, tools).number, number)
                self.assertEqual(refusal(self, BadTools, check_reach, FIELD, tools, None).number, number)
        self.assertIsNone(refusal(self, BadTools, check_reach, FIELD, list(TOOLS), None).number)
        self.assertIsNone(refusal(self, BadTools, reach_paper, FIELD, None).number)


if __name__ == "__main__":
    unittest.main()
