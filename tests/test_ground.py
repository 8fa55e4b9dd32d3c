import random
import unittest
from fractions import Fraction

from panelworks.errors import BadOutline, OutOfPlace
from panelworks.ground import Ground, ground_of
from panelworks.outlines import loop_area, loop_length
from panelworks.sides import side_of

from tests.helpers import ODD_THINGS, loop_from, pair, plain, refusal, rising, spots, whole

WIDE = 7


def box(*numbers):
    return tuple(pair(one) for one in numbers)


EMPTY = Ground()
UNIT = Ground((box(0, 0, 1, 1),))
# A square with a hole.
RIM = (box(0, 0, 3, 1), box(0, 2, 3, 3), box(0, 0, 1, 3), box(2, 0, 3, 3))


class Grid:
    """Grounds of cells between lines by chance, looked at cell by cell."""

    def __init__(self, chance):
        self.chance = chance
        self.xs, self.ys = rising(chance, WIDE + 1), rising(chance, WIDE + 1)

    def some(self, many):
        """So many rectangles, and the cells that they have."""
        rectangles, cells = [], set()
        for _ in range(many):
            left, right = sorted(self.chance.sample(range(WIDE + 1), 2))
            low, high = sorted(self.chance.sample(range(WIDE + 1), 2))
            if many > 8:
                right, high = min(right, left + 2), min(high, low + 2)
            rectangles.append((self.xs[left], self.ys[low], self.xs[right], self.ys[high]))
            cells |= {(x, y) for x in range(left, right) for y in range(low, high)}
        return tuple(rectangles), cells

    def ground(self, most=9):
        rectangles, cells = self.some(self.chance.randint(0, most))
        return Ground(rectangles), cells

    def slabs(self, cells):
        """The slabs of some cells."""
        columns = []
        for x in range(WIDE):
            runs, y = [], 0
            while y < WIDE:
                start = y
                while (x, y) in cells:
                    y += 1
                if y > start:
                    runs.append((self.ys[start], self.ys[y]))
                else:
                    y += 1
            columns.append((self.xs[x], self.xs[x + 1], tuple(runs)))
        found = []
        for column in columns:
            if column[2] and found and found[-1][1:] == (column[0], column[2]):
                found[-1] = (found[-1][0], column[1], column[2])
            elif column[2]:
                found.append(column)
        return tuple(found)

    def area(self, cells):
        return pair(sum((self.wide(x) * self.long(y) for x, y in cells), Fraction(0)))

    def border(self, cells):
        found = Fraction(0)
        for x, y in cells:
            found += self.wide(x) * (((x, y + 1) not in cells) + ((x, y - 1) not in cells))
            found += self.long(y) * (((x + 1, y) not in cells) + ((x - 1, y) not in cells))
        return pair(found)

    def wide(self, x):
        return plain(self.xs[x + 1]) - plain(self.xs[x])

    def long(self, y):
        return plain(self.ys[y + 1]) - plain(self.ys[y])

    def corner(self, cells):
        if not cells:
            return None
        x, y = min(cells)
        return (self.xs[x], self.ys[y])

    def islands(self, cells):
        """The groups of cells that meet along sides, by their least ones."""
        found, left = [], set(cells)
        while left:
            group, new = set(), {min(left)}
            while new:
                group |= new
                new = {
                    (x + dx, y + dy) for x, y in new for dx, dy in ((1, 0), (-1, 0), (0, 1), (0, -1))
                } & left - group
            found.append(group)
            left -= group
        return found


class ByCells(unittest.TestCase):
    def test_all_of_one(self):
        chance = random.Random(81)
        for k in range(120):
            grid = Grid(chance)
            ground, cells = grid.ground(40 if k % 10 == 0 else 9)
            slabs = grid.slabs(cells)
            self.assertEqual(ground.slabs(), slabs)
            rectangles = tuple((left, low, right, high) for left, right, runs in slabs for low, high in runs)
            self.assertEqual(ground.rectangles(), rectangles)
            self.assertEqual(len(ground), len(rectangles))
            self.assertEqual(ground.area(), grid.area(cells))
            self.assertEqual(ground.border(), grid.border(cells))
            self.assertEqual(ground.corner(), grid.corner(cells))
            self.assertEqual(
                [island.slabs() for island in ground.islands()], [grid.slabs(group) for group in grid.islands(cells)]
            )

    def test_of_two(self):
        chance = random.Random(82)
        within = 0
        for _ in range(150):
            grid = Grid(chance)
            (one, mine), (other, others) = grid.ground(6), grid.ground(9)
            self.assertEqual(one.either(other).slabs(), grid.slabs(mine | others))
            self.assertEqual(one.both(other).slabs(), grid.slabs(mine & others))
            self.assertEqual(one.less(other).slabs(), grid.slabs(mine - others))
            self.assertEqual(other.less(one).slabs(), grid.slabs(others - mine))
            self.assertEqual(one.breach(other), grid.corner(mine - others))
            self.assertIs(one.is_within(other), mine <= others)
            self.assertIs(one.both(other).is_within(other), True)
            within += mine <= others
            self.assertIs(one == other, mine == others)
        self.assertGreater(within, 5)

    def test_has(self):
        chance = random.Random(83)
        for _ in range(30):
            grid = Grid(chance)
            ground, cells = grid.ground()
            for x in range(-1, WIDE + 1):
                for y in range(-1, WIDE + 1):
                    self.assertIs(ground.has(self.at(grid, x, y, 0)), (x, y) in cells)
                    self.assertIs(ground.has(self.at(grid, x, y, Fraction(1, 3))), (x, y) in cells)

    def at(self, grid, x, y, part):
        """A spot of a cell, its corner or one within; a line further out where there is no such cell."""
        spot = []
        for lines, k in ((grid.xs, x), (grid.ys, y)):
            if k == -1:
                spot.append(plain(lines[0]) - 1)
            elif k == WIDE:
                spot.append(plain(lines[WIDE]))
            else:
                spot.append(plain(lines[k]) + part * (plain(lines[k + 1]) - plain(lines[k])))
        return tuple(pair(one) for one in spot)

    def test_told_by_other_rectangles(self):
        chance = random.Random(84)
        for _ in range(60):
            grid = Grid(chance)
            rectangles, cells = grid.some(chance.randint(1, 7))
            ground = Ground(rectangles)
            mixed = list(rectangles * 2)
            chance.shuffle(mixed)
            others = [Ground(tuple(mixed)), Ground(rectangles[::-1])]
            if len(cells) <= 40:
                others.append(
                    Ground(tuple((grid.xs[x], grid.ys[y], grid.xs[x + 1], grid.ys[y + 1]) for x, y in sorted(cells)))
                )
            if len(ground) <= 40:
                others.append(Ground(ground.rectangles()))
            for other in others:
                self.assertEqual(other.slabs(), ground.slabs())
                self.assertTrue(other == ground)
                self.assertFalse(other != ground)
                self.assertEqual(str(other), str(ground))

    def test_moved(self):
        chance = random.Random(85)
        for _ in range(30):
            grid = Grid(chance)
            ground, cells = grid.ground()
            by = (pair(Fraction(chance.randint(-9, 9), 7)), pair(Fraction(chance.randint(-9, 9), 5)))
            grid.xs = [pair(plain(one) + plain(by[0])) for one in grid.xs]
            grid.ys = [pair(plain(one) + plain(by[1])) for one in grid.ys]
            self.assertEqual(ground.moved(by).slabs(), grid.slabs(cells))
            self.assertEqual(ground.moved((whole(0), whole(0))), ground)


class Told(unittest.TestCase):
    def test_empty(self):
        self.assertEqual(Ground(()), EMPTY)
        self.assertEqual((EMPTY.slabs(), EMPTY.rectangles(), len(EMPTY), str(EMPTY)), ((), (), 0, ""))
        self.assertEqual(
            (EMPTY.area(), EMPTY.border(), EMPTY.corner(), EMPTY.islands()), (whole(0), whole(0), None, [])
        )
        self.assertIs(EMPTY.has((whole(0), whole(0))), False)
        self.assertIs(EMPTY.is_within(EMPTY), True)
        self.assertIs(EMPTY.is_within(UNIT), True)
        self.assertIs(UNIT.is_within(EMPTY), False)
        self.assertIsNone(EMPTY.breach(EMPTY))
        self.assertEqual(UNIT.breach(EMPTY), (whole(0), whole(0)))
        for one in (
            EMPTY.either(EMPTY),
            EMPTY.both(UNIT),
            EMPTY.less(UNIT),
            UNIT.both(EMPTY),
            UNIT.less(UNIT),
            EMPTY.moved((whole(1), whole(1))),
        ):
            self.assertEqual(one, EMPTY)
        self.assertEqual(EMPTY.either(UNIT), UNIT)

    def test_side_by_side(self):
        told = (
            ((box(0, 0, 1, 1), box(1, 0, 2, 1)), ((whole(0), whole(2), (box(0, 1),)),)),
            ((box(0, 0, 1, 1), box(0, 1, 1, 2)), ((whole(0), whole(1), (box(0, 2),)),)),
            (
                (box(0, 0, 1, 1), box(1, 1, 2, 2)),
                ((whole(0), whole(1), (box(0, 1),)), (whole(1), whole(2), (box(1, 2),))),
            ),
            ((box(0, 0, 1, 1), box(0, 2, 1, 3)), ((whole(0), whole(1), (box(0, 1), box(2, 3))),)),
            (
                (box(0, 0, 1, 1), box(2, 0, 3, 1)),
                ((whole(0), whole(1), (box(0, 1),)), (whole(2), whole(3), (box(0, 1),))),
            ),
            ((box(0, 0, 3, 3), box(1, 1, 2, 2)), ((whole(0), whole(3), (box(0, 3),)),)),
            ((box(0, 0, "1/2", 1), box("1/3", 0, 1, 1)), ((whole(0), whole(1), (box(0, 1),)),)),
        )
        for rectangles, slabs in told:
            for one in (rectangles, rectangles[::-1], rectangles * 5):
                self.assertEqual(Ground(one).slabs(), slabs)
                self.assertEqual(Ground(rectangles=one).slabs(), slabs)

    def test_has_at_its_borders(self):
        for x, y, wanted in (
            (0, 0, True),
            (1, 0, False),
            (0, 1, False),
            (1, 1, False),
            ("1/2", 0, True),
            (0, "1/2", True),
            ("1/2", 1, False),
            (1, "1/2", False),
            ("99/100", "99/100", True),
            ("-1/100", 0, False),
        ):
            self.assertIs(UNIT.has((pair(x), pair(y))), wanted)
        self.assertIs(UNIT.has(spot=(whole(0), whole(0))), True)

    def test_text(self):
        self.assertEqual(str(Ground((box(1, 2, 3, 3), box(0, 0, 1, "1/2")))), "[0,1)x[0,1/2) [1,3)x[2,3)")
        self.assertEqual(str(Ground((box("-1/3", -2, 0, 0),))), "[-1/3,0)x[-2,0)")
        self.assertEqual(str(Ground((box(0, 0, 1, 1), box(0, 3, 1, 4)))), "[0,1)x[0,1) [0,1)x[3,4)")

    def test_like_with_other_things(self):
        for thing in ODD_THINGS + (UNIT.slabs(), str(UNIT), UNIT.rectangles(), (box(0, 0, 1, 1),)):
            self.assertIs(UNIT == thing, False)
            self.assertIs(UNIT != thing, True)
            self.assertIs(thing == UNIT, False)
        self.assertIs(UNIT == Ground((box(0, 0, 1, 1),)), True)

    def test_islands_that_meet_at_corners_alone(self):
        ground = Ground((box(0, 0, 1, 1), box(1, 1, 2, 2), box(2, 0, 3, 1)))
        self.assertEqual([str(one) for one in ground.islands()], ["[0,1)x[0,1)", "[1,2)x[1,2)", "[2,3)x[0,1)"])
        joined = ground.either(Ground((box(1, 0, 2, 1),)))
        self.assertEqual(joined.islands(), [joined])

    def test_islands_with_holes(self):
        rim = Ground(RIM)
        within = Ground((box("5/4", "5/4", "7/4", "7/4"),))
        self.assertEqual((rim.area(), rim.border(), len(rim)), (whole(8), whole(16), 4))
        self.assertEqual(rim.islands(), [rim])
        self.assertEqual(rim.either(within).islands(), [rim, within])
        self.assertEqual(rim.either(Ground((box(1, 1, 2, 2),))), Ground((box(0, 0, 3, 3),)))
        self.assertEqual(Ground((box(0, 0, 3, 3),)).less(Ground((box(1, 1, 2, 2),))), rim)

    def test_islands_are_told_in_one_way(self):
        # Each island by itself has fewer lines than both together.
        ground = Ground((box(0, 0, 4, 1), box(1, 2, 3, 3)))
        self.assertEqual(
            [one.slabs() for one in ground.islands()],
            [((whole(0), whole(4), (box(0, 1),)),), ((whole(1), whole(3), (box(2, 3),)),)],
        )

    def test_more_runs_than_rectangles_to_make_it(self):
        comb = Ground(tuple(box(k, 0, k + Fraction(1, 2), 40) for k in range(40)))
        bars = Ground(tuple(box(0, k, 40, k + Fraction(1, 2)) for k in range(40)))
        cross = comb.both(bars)
        self.assertEqual((len(cross), cross.area()), (1600, whole(400)))
        self.assertEqual(len(cross.islands()), 1600)
        both = comb.either(bars)
        self.assertEqual(both.area(), whole(1200))
        self.assertEqual(both.islands(), [both])
        self.assertEqual(cross.moved((whole(0), whole(0))), cross)

    def test_names_of_arguments(self):
        other = Ground((box(0, 0, 2, 1),))
        self.assertEqual(UNIT.either(other=other), other)
        self.assertEqual(UNIT.both(other=other), UNIT)
        self.assertEqual(other.less(other=UNIT), Ground((box(1, 0, 2, 1),)))
        self.assertIs(UNIT.is_within(other=other), True)
        self.assertEqual(other.breach(other=UNIT), box(1, 0))
        self.assertEqual(UNIT.moved(by=box(1, 2)), Ground((box(1, 2, 2, 3),)))
        self.assertEqual(ground_of(loop=spots(0, 0, 1, 0, 1, 1, 0, 1)), UNIT)


class Loops(unittest.TestCase):
    def test_told(self):
        ell = spots(0, 0, 3, 0, 3, 1, 2, 1, 2, 2, 0, 2)
        for start in range(6):
            turned = ell[start:] + ell[:start]
            for loop in (turned, turned[::-1]):
                self.assertEqual(str(ground_of(loop)), "[0,2)x[0,2) [2,3)x[0,1)")
        gap = spots(0, 0, 5, 0, 5, 3, 4, 3, 4, 1, 3, 1, 3, 3, 2, 3, 2, 1, 1, 1, 1, 3, 0, 3)
        self.assertEqual(str(ground_of(gap)), "[0,1)x[0,3) [1,2)x[0,1) [2,3)x[0,3) [3,4)x[0,1) [4,5)x[0,3)")

    def test_by_chance(self):
        chance = random.Random(86)
        for _ in range(80):
            loop, cells, xs, ys = loop_from(chance)
            ground = ground_of(loop)
            self.assertEqual(ground, Ground(tuple((xs[x], ys[y], xs[x + 1], ys[y + 1]) for x, y in cells)))
            self.assertEqual(ground.area(), loop_area(loop))
            self.assertEqual(ground.border(), loop_length(loop))
            self.assertEqual(len(ground.islands()), 1)
            for _ in range(20):
                there = (chance.choice(xs), chance.choice(ys))
                beside = tuple(pair(plain(one) + Fraction(1, 1000)) for one in there)
                self.assertIs(ground.has(there), side_of(loop, beside) == "in")
                self.assertIs(ground.has(beside), side_of(loop, beside) == "in")

    def test_refused(self):
        for loop in ODD_THINGS + (spots(0, 0, 1, 0, 1, 1),):
            self.assertIsNone(refusal(self, BadOutline, ground_of, loop).number)
        self.assertEqual(refusal(self, BadOutline, ground_of, spots(0, 0, 1, 0, 2, 0, 2, 1)).number, 1)
        self.assertEqual(
            refusal(self, BadOutline, ground_of, spots(0, 0, 2, 0, 2, 2, 4, 2, 4, 4, 2, 4, 2, 2, 0, 2)).number, 1
        )


class Alone(unittest.TestCase):
    def test_nothing_that_is_asked_changes_it(self):
        one, other = Ground(RIM), Ground((box(0, 0, 2, 2),))
        ahead = (one.slabs(), other.slabs())
        for _ in range(2):
            made = (one.either(other), one.both(other), one.less(other), one.moved((whole(1), whole(1))))
            one.islands().clear()
            self.assertEqual((one.slabs(), other.slabs()), ahead)
            self.assertEqual(len(one.islands()), 1)
            self.assertEqual(
                made, (one.either(other), one.both(other), one.less(other), one.moved((whole(1), whole(1))))
            )

    def test_with_itself(self):
        one = Ground(RIM)
        self.assertEqual((one.either(one), one.both(one), one.less(one)), (one, one, EMPTY))
        self.assertIsNone(one.breach(one))


class Refused(unittest.TestCase):
    def test_rectangles(self):
        row = tuple(box(k, 0, k + 1, 1) for k in range(41))
        self.assertEqual(Ground(row[:40]), Ground((box(0, 0, 40, 1),)))
        refusal(self, OutOfPlace, Ground, row)
        good = box(0, 0, 1, 1)
        wrong = (
            box(0, 0, 0, 1),
            box(0, 0, 1, 0),
            box(1, 0, 0, 1),
            box(0, 1, 1, 0),
            good[:3],
            good + good[:1],
            list(good),
            (0, 0, 1, 1),
            good[:3] + ((2, 2),),
            good[:3] + (None,),
            good[:3] + ((True, 1),),
        )
        for thing in wrong + ODD_THINGS:
            refusal(self, OutOfPlace, Ground, (thing,))
            refusal(self, OutOfPlace, Ground, (good, thing, good))
        for thing in ODD_THINGS + ([good], good, UNIT):
            if thing != ():
                refusal(self, OutOfPlace, Ground, thing)

    def test_no_ground(self):
        for thing in ODD_THINGS + (UNIT.slabs(), (box(0, 0, 1, 1),), str(UNIT)):
            for one in (UNIT, EMPTY):
                for call in (one.either, one.both, one.less, one.is_within, one.breach):
                    refusal(self, OutOfPlace, call, thing)

    def test_no_spot(self):
        wrong = (
            (0, 0),
            (whole(0),),
            (whole(0), whole(0), whole(0)),
            [whole(0), whole(0)],
            (whole(0), (2, 2)),
            (whole(0), 0),
        )
        for thing in wrong + ODD_THINGS:
            for one in (UNIT, EMPTY):
                refusal(self, OutOfPlace, one.has, thing)
                refusal(self, OutOfPlace, one.moved, thing)


if __name__ == "__main__":
    unittest.main()
