import random
import unittest

from panelworks.errors import BadField, BadPaper, OutOfPlace
from panelworks.pockets import check_meeting, flooded, meeting, meeting_paper, pockets

from tests.helpers import NO_FIELDS, ODD_THINGS, field_from, refusal

FIELD = (3, ((0, 2, 1), (3, 3, 2), (1, 3, 0)))
NO_CELLS = ODD_THINGS + (
    (3, 0),
    (0, 3),
    (-1, 0),
    (0, -1),
    (0, 0, 0),
    [0, 0],
    (True, 0),
    (0, False),
    (0, None),
    (0.0, 0),
    ("0", "0"),
)


def heights(field):
    return {(i, j): height for j, row in enumerate(field[1]) for i, height in enumerate(row)}


def near(cell):
    i, j = cell
    return [(i - 1, j), (i + 1, j), (i, j - 1), (i, j + 1)]


def flood(cells, start):
    """All of some cells to which one comes from a first one along sides."""
    found, new = {start}, [start]
    while new:
        for other in near(new.pop()):
            if other in cells and other not in found:
                found.add(other)
                new.append(other)
    return found


def groups(field, level):
    rest = {cell for cell, height in heights(field).items() if height <= level}
    found = []
    while rest:
        group = flood(rest, min(rest))
        found.append(tuple(sorted(group)))
        rest -= group
    return tuple(found)


def meets(field, one, other):
    """The least highest height of all ways, by ways that go one cell further each time."""
    known = heights(field)
    best = {cell: 99 for cell in known}
    best[one] = known[one]
    for _ in known:
        for cell in known:
            for there in near(cell):
                if there in known:
                    best[cell] = min(best[cell], max(best[there], known[cell]))
    return best[other]


def rained(field):
    """What stands when it rains: a sea at nought all round, to which a way leads from each cell."""
    known = heights(field)
    water = dict.fromkeys(known, 99)
    for _ in known:
        for cell in known:
            outlet = min(water.get(there, 0) for there in near(cell))
            water[cell] = min(water[cell], max(known[cell], outlet))
    return (field[0], tuple(tuple(water[i, j] for i in range(len(row))) for j, row in enumerate(field[1])))


def way_from(chance, field, one, other):
    """Any way that isn't higher than it must be, perhaps with cells more than once."""
    level = meets(field, one, other)
    low = {cell for cell, height in heights(field).items() if height <= level}
    way = [one]
    while way[-1] != other or (one != other and chance.random() < 0.3):
        way.append(chance.choice([cell for cell in near(way[-1]) if cell in low]))
    return tuple(way)


def side_from(chance, field, one, other):
    """Any side that holds off: all to which one comes below the meeting, with more islands by chance."""
    level = meets(field, one, other)
    known = heights(field)
    low = {cell for cell, height in known.items() if height < level}
    side = flood(low, one) if one in low else {one}
    away = flood(low, other) if other in low else {other}
    for cell in sorted(known):
        if cell not in side | away and chance.random() < 0.3:
            side |= (flood(low, cell) if cell in low else {cell}) - away
    return tuple(sorted(side))


class Pockets(unittest.TestCase):
    def test_told(self):
        self.assertEqual(pockets(FIELD, 0), (((0, 0),), ((2, 2),)))
        self.assertEqual(pockets(FIELD, 1), (((0, 0),), ((0, 2),), ((2, 0),), ((2, 2),)))
        self.assertEqual(pockets(FIELD, 2), (((0, 0), (1, 0), (2, 0), (2, 1), (2, 2)), ((0, 2),)))
        self.assertEqual(pockets(FIELD, 3), (tuple((i, j) for i in range(3) for j in range(3)),))
        self.assertEqual(pockets(field=(2, ((1, 2),)), level=0), ())

    def test_cells_at_corners_are_not_in_touch(self):
        self.assertEqual(pockets((1, ((0, 1), (1, 0))), 0), (((0, 0),), ((1, 1),)))

    def test_by_chance(self):
        chance = random.Random(161)
        for _ in range(80):
            field = field_from(chance)
            for level in range(field[0] + 1):
                self.assertEqual(pockets(field, level), groups(field, level))

    def test_refused(self):
        for field, place in NO_FIELDS:
            self.assertEqual(refusal(self, BadField, pockets, field, None).place, place)
        for level in ODD_THINGS + (-1, 4, 1.0, (0, 1)):
            refusal(self, OutOfPlace, pockets, FIELD, level)


class Meeting(unittest.TestCase):
    def test_told(self):
        for one, other, wanted in (
            ((0, 0), (0, 0), 0),
            ((1, 1), (1, 1), 3),
            ((0, 0), (2, 2), 2),
            ((0, 0), (1, 0), 2),
            ((0, 2), (0, 0), 3),
            ((2, 0), (2, 2), 2),
            ((1, 1), (0, 0), 3),
        ):
            self.assertEqual(meeting(FIELD, one, other), wanted)
            self.assertEqual(meeting(FIELD, other, one), wanted)
            self.assertEqual(check_meeting(FIELD, one, other, meeting_paper(FIELD, one, other)), wanted)
        self.assertEqual(meeting(field=FIELD, one=(0, 0), other=(2, 2)), 2)
        self.assertEqual(meeting_paper(field=FIELD, one=(0, 0), other=(0, 0)), (((0, 0),), ()))
        paper = (((0, 0), (1, 0), (2, 0), (2, 1), (2, 2)), ((0, 0),))
        self.assertEqual(check_meeting(field=FIELD, one=(0, 0), other=(2, 2), paper=paper), 2)

    def test_by_chance(self):
        chance = random.Random(162)
        for _ in range(120):
            field = field_from(chance, most=6)
            cells = sorted(heights(field))
            one, other = chance.choice(cells), chance.choice(cells)
            wanted = meets(field, one, other)
            self.assertEqual(meeting(field, one, other), wanted)
            told = meeting_paper(field, one, other)
            self.assertEqual(check_meeting(field, one, other, told), wanted)
            if one != other:
                made = (way_from(chance, field, one, other), side_from(chance, field, one, other))
                self.assertEqual(check_meeting(field, one, other, made), wanted)

    def test_a_side_may_be_more_than_it_must(self):
        row = (2, ((0, 2, 0, 2, 0),))
        way = tuple((i, 0) for i in range(5))
        for side in (((0, 0),), ((0, 0), (1, 0)), way[:3], way[:4], ((0, 0), (2, 0)), ((0, 0), (3, 0))):
            self.assertEqual(check_meeting(row, (0, 0), (4, 0), (way, side)), 2)
        # Twice through the same cells, and on the one side from the other one.
        again = way[:3] + way[1:2] + way[2:]
        self.assertEqual(check_meeting(row, (0, 0), (4, 0), (way[:2] + again[2:], ((0, 0),))), 2)
        self.assertEqual(check_meeting(row, (4, 0), (0, 0), (way[::-1], ((4, 0),))), 2)


class Spoilt(unittest.TestCase):
    ROW = (3, ((0, 2, 0, 3, 0),))
    WAY = tuple((i, 0) for i in range(3))

    def refused(self, paper, place, one=(0, 0), other=(2, 0)):
        self.assertEqual(refusal(self, BadPaper, check_meeting, self.ROW, one, other, paper).place, place)

    def test_form(self):
        wrong = ((self.WAY,), (self.WAY, (), ()), [self.WAY, ()], (list(self.WAY), ()), (self.WAY, []))
        for thing in ODD_THINGS + wrong:
            self.refused(thing, None)
            self.refused((thing, thing) if not isinstance(thing, tuple) else (None, thing), None)

    def test_way(self):
        side = ((0, 0),)
        self.assertEqual(check_meeting(self.ROW, (0, 0), (2, 0), (self.WAY, side)), 2)
        for way in (
            (),
            self.WAY[:2],
            self.WAY[1:],
            self.WAY[::-1],
            self.WAY[::2],
            self.WAY[:2] + self.WAY[1:],
            self.WAY + ((3, 0),),
            self.WAY[:1] + ((0, 1), (1, 1)) + self.WAY[2:],
        ):
            self.refused((way, side), "way")
            self.refused((way, ()), "way")
        for thing in NO_CELLS:
            if thing not in ((0, 3), (3, 0)):
                self.refused((self.WAY[:1] + (thing,) + self.WAY[2:], side), "way")
                self.refused((self.WAY + (thing,), ()), "way")
        self.refused((((False, 0),) + self.WAY[1:], side), "way")

    def test_way_of_one_alone(self):
        cell = (1, 0)
        self.assertEqual(check_meeting(self.ROW, cell, cell, ((cell,), ())), 2)
        for way in ((), (cell, cell), (cell, (0, 0), cell), ((0, 0),), ((True, 0),)):
            self.refused((way, ()), "way", cell, cell)
        for side in ((cell,), ((0, 0),), (None,), ((),)):
            self.refused(((cell,), side), "side", cell, cell)
            self.refused(((), side), "way", cell, cell)

    def test_side(self):
        for side in (
            (),
            ((1, 0),),
            ((2, 0),),
            ((0, 0), (2, 0)),
            self.WAY,
            ((1, 0), (0, 0)),
            ((0, 0), (0, 0)),
            # At its border a lesser height than the highest of the way.
            ((0, 0), (3, 0), (4, 0), (5, 0)),
        ):
            self.refused((self.WAY, side), "side")
        for thing in NO_CELLS:
            if thing not in ((0, 3), (3, 0)):
                self.refused((self.WAY, (thing,)), "side")
                self.refused((self.WAY, ((0, 0), thing)), "side")
        # A way that is higher than it must be has no side.
        row = (3, ((0, 2, 0), (3, 3, 3)))
        way = ((0, 0), (0, 1), (1, 1), (2, 1), (2, 0))
        for side in (((0, 0),), ((0, 0), (0, 1)), ((0, 0), (1, 0)), ((0, 0), (0, 1), (1, 0), (1, 1))):
            self.assertEqual(refusal(self, BadPaper, check_meeting, row, (0, 0), (2, 0), (way, side)).place, "side")

    def test_all_sides_of_small_fields(self):
        chance = random.Random(163)
        met = {True: 0, False: 0}
        for _ in range(12):
            field = field_from(chance, most=3, high=chance.choice((1, 2)))
            known = heights(field)
            cells = sorted(known)
            one, other = cells[0], chance.choice(cells)
            if one == other:
                continue
            way = way_from(chance, field, one, other)
            level = max(known[cell] for cell in way)
            for number in range(2 ** len(cells)):
                side = tuple(cell for k, cell in enumerate(cells) if number >> k & 1)
                right = one in side and other not in side
                for cell in side:
                    for there in near(cell):
                        if there in known and there not in side:
                            right = right and max(known[cell], known[there]) >= level
                met[right] += 1
                if right:
                    self.assertEqual(check_meeting(field, one, other, (way, side)), level)
                else:
                    found = refusal(self, BadPaper, check_meeting, field, one, other, (way, side))
                    self.assertEqual(found.place, "side")
        self.assertGreater(min(met.values()), 20)

    def test_refused_first(self):
        for field, place in NO_FIELDS:
            for call in (meeting, meeting_paper):
                self.assertEqual(refusal(self, BadField, call, field, None, None).place, place)
            self.assertEqual(refusal(self, BadField, check_meeting, field, None, None, None).place, place)
            self.assertEqual(refusal(self, BadField, flooded, field).place, place)
        for thing in NO_CELLS:
            for call in (meeting, meeting_paper):
                refusal(self, OutOfPlace, call, FIELD, thing, (0, 0))
                refusal(self, OutOfPlace, call, FIELD, (0, 0), thing)
            refusal(self, OutOfPlace, check_meeting, FIELD, thing, (0, 0), None)
            refusal(self, OutOfPlace, check_meeting, FIELD, (0, 0), thing, None)


class Flooded(unittest.TestCase):
    def test_told(self):
        self.assertEqual(flooded((3, ((3, 3, 3), (3, 0, 3), (3, 3, 3)))), (3, ((3,) * 3,) * 3))
        self.assertEqual(flooded(field=(3, ((3, 3, 3), (3, 0, 2), (3, 3, 3)))), (3, ((3, 3, 3), (3, 2, 2), (3, 3, 3))))
        # Over a corner nothing flows off.
        self.assertEqual(flooded((3, ((0, 3, 3), (3, 1, 3), (3, 3, 3)))), (3, ((0, 3, 3), (3, 3, 3), (3, 3, 3))))
        # A narrow field is all border.
        self.assertEqual(flooded((3, ((3, 0, 3), (3, 0, 3)))), (3, ((3, 0, 3), (3, 0, 3))))
        self.assertEqual(flooded((2, ((0,),))), (2, ((0,),)))
        # What can't be seen from the border on a straight line flows off on a way with turns.
        maze = (4, ((4, 4, 4, 4, 4), (4, 0, 4, 1, 1), (4, 0, 4, 0, 4), (4, 0, 0, 0, 4), (4, 4, 4, 4, 4)))
        wanted = (4, ((4, 4, 4, 4, 4), (4, 1, 4, 1, 1), (4, 1, 4, 1, 4), (4, 1, 1, 1, 4), (4, 4, 4, 4, 4)))
        self.assertEqual(flooded(maze), wanted)

    def test_by_chance(self):
        chance = random.Random(164)
        changed = 0
        for _ in range(100):
            field = field_from(chance)
            found = flooded(field)
            self.assertEqual(found, rained(field))
            self.assertEqual(flooded(found), found)
            changed += found != field
            for cell, height in heights(field).items():
                self.assertGreaterEqual(heights(found)[cell], height)
        self.assertGreater(changed, 10)


if __name__ == "__main__":
    unittest.main()
