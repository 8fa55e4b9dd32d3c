import random
import unittest

from panelworks.leanway import is_lean, lean_way
from panelworks.ways import left_by, made_way, plain_way, time_of

from tests.helpers import field_from, refuses_in_order, tools_from
from tests.stepping import WRONG_WAYS, left_by_words, rows_by_words, way_from

T, U = ("tool", 1, 1), ("tool", 2, 2)
DOWN, UP = ("down", 1), ("up",)


def go(i, j):
    return ("go", i, j)


def cut(i, j):
    return ("cut", i, j)


def lean_by_words(way):
    """The lean way, run by run, straight by the words of the document."""
    found, at = [], 0
    while at < len(way):
        if way[at][0] not in ("tool", "go"):
            found.append(way[at])
            at += 1
            continue
        end = at
        while end < len(way) and way[end][0] in ("tool", "go"):
            end += 1
        run = way[at:end]
        if end < len(way):
            tools = [step for step in run if step[0] == "tool"]
            over = (0, 0)
            if tools:
                found.append(tools[-1])
            else:
                for step in way[:at]:
                    over = (0, 0) if step[0] == "tool" else step[1:] if step[0] in ("go", "cut") else over
            if run[-1][0] == "go" and run[-1][1:] != over:
                found.append(run[-1])
        at = end
    return tuple(found)


class Told(unittest.TestCase):
    def test_runs(self):
        for run, lean in (
            ((T,), (T,)),
            ((T, U), (U,)),
            ((U, T, U), (U,)),
            ((T, go(1, 2)), (T, go(1, 2))),
            ((T, go(1, 2), go(2, 2)), (T, go(2, 2))),
            ((T, go(1, 2), go(0, 0)), (T,)),
            ((T, go(0, 0)), (T,)),
            ((go(1, 2), T), (T,)),
            ((go(1, 2), T, go(3, 3)), (T, go(3, 3))),
            ((T, go(3, 3), U), (U,)),
            ((T, go(3, 3), U, go(3, 3)), (U, go(3, 3))),
            ((T, go(3, 3), U, go(0, 0)), (U,)),
            # Of no tool: over (0, 0) at first.
            ((go(1, 2),), (go(1, 2),)),
            ((go(1, 2), go(2, 2)), (go(2, 2),)),
            ((go(0, 0),), ()),
            ((go(1, 2), go(0, 0)), ()),
            ((go(1, 2), go(1, 2)), (go(1, 2),)),
        ):
            for behind in ((DOWN,), (UP,), (cut(1, 1),), (DOWN, cut(5, 5), UP)):
                self.assertEqual(lean_way(run + behind), lean + behind, run)
            # At the end nothing is left of it.
            self.assertEqual(lean_way(run), ())
            self.assertEqual(lean_way((T, DOWN, UP) + run), (T, DOWN, UP))

    def test_behind_other_steps(self):
        for ahead, over in (
            ((T, DOWN, UP), (0, 0)),
            ((T, go(2, 3), DOWN, UP), (2, 3)),
            ((T, go(2, 3), DOWN, cut(2, 5), UP), (2, 5)),
            ((T, go(2, 3), DOWN, cut(2, 5), cut(1, 5), UP, DOWN, UP), (1, 5)),
            ((cut(4, 4),), (4, 4)),
            # Behind a tool, where the cuts ahead of it led is nothing any more.
            ((T, go(2, 3), DOWN, UP, U, DOWN, UP), (0, 0)),
            ((T, go(2, 3), DOWN, UP, U, go(1, 1), DOWN, UP), (1, 1)),
            # Where a go that falls away led.
            ((T, go(2, 3), DOWN, UP, go(5, 5), go(2, 3), DOWN, UP), (2, 3)),
        ):
            kept = lean_way(ahead)
            for place in ((0, 0), (2, 3), (2, 5), (1, 5), (4, 4), (1, 1), (5, 5)):
                wanted = kept if place == over else kept + (go(*place),)
                self.assertEqual(lean_way(ahead + (go(*place), DOWN)), wanted + (DOWN,))
                self.assertEqual(lean_way(ahead + (go(6, 6), go(*place), DOWN)), wanted + (DOWN,))
                behind_tool = kept + (T,) if place == (0, 0) else kept + (T, go(*place))
                self.assertEqual(lean_way(ahead + (T, go(*place), DOWN)), behind_tool + (DOWN,))

    def test_all_other_steps_stay(self):
        some = (UP, UP, DOWN, cut(1, 1), cut(1, 1), ("down", 0), UP)
        self.assertEqual(lean_way(some), some)
        self.assertEqual(lean_way(way=()), ())

    def test_is_lean(self):
        for way, lean in (
            ((), True),
            ((T, DOWN), True),
            ((T, go(1, 1), DOWN, UP), True),
            ((T, DOWN, UP, go(1, 1)), False),
            ((T,), False),
            ((T, go(0, 0), DOWN), False),
            ((T, U, DOWN), False),
            ((T, go(1, 1), go(2, 1), DOWN), False),
        ):
            self.assertIs(is_lean(way), lean)
        self.assertIs(is_lean(way=(DOWN,)), True)

    def test_by_chance(self):
        chance = random.Random(341)
        met = [0, 0]
        steps = (T, U, go(0, 0), go(1, 1), go(2, 1), cut(1, 1), cut(0, 0), DOWN, UP)
        for _ in range(800):
            way = tuple(chance.choice(steps) for _ in range(chance.randint(0, 12)))
            lean = lean_by_words(way)
            self.assertEqual(lean_way(way), lean)
            self.assertIs(is_lean(way), lean == way)
            self.assertIs(is_lean(lean), True)
            met[lean == way] += 1
        self.assertGreater(min(met), 20)

    def test_it_leaves_the_same_and_takes_no_more_time(self):
        chance = random.Random(342)
        less = 0
        for _ in range(120):
            field, depth = field_from(chance, most=4), chance.randint(1, 4)
            way = way_from(chance, field, depth, chance.randint(0, 30))
            lean = lean_way(way)
            self.assertEqual(lean, lean_by_words(way))
            rows, fewer = rows_by_words(field, way, depth), rows_by_words(field, lean, depth)
            self.assertEqual(len(fewer), len(lean))
            self.assertEqual(left_by_words(field, lean, depth), left_by_words(field, way, depth))
            times = [sum(row[1] for row in some) for some in (fewer, rows)]
            self.assertLessEqual(times[0], times[1])
            less += times[0] < times[1]
        self.assertGreater(less, 40)

    def test_of_fit_ways(self):
        chance = random.Random(343)
        for _ in range(20):
            field, tools = field_from(chance, most=4), tools_from(chance)
            for way in (plain_way(field, tools), made_way(field, tools)):
                self.assertEqual(left_by(field, lean_way(way)), left_by(field, way))
                self.assertLessEqual(time_of(field, lean_way(way)), time_of(field, way))


class Refused(unittest.TestCase):
    def test_no_way(self):
        for call in (lean_way, is_lean):
            refuses_in_order(self, call, {}, [("way", WRONG_WAYS)])


if __name__ == "__main__":
    unittest.main()
