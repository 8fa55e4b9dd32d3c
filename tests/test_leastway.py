import random
import unittest
from heapq import heappop, heappush

from panelworks.bounds import low
from panelworks.errors import BadPaper, TooGreat
from panelworks.leastway import check_least, is_small, least_paper, least_way
from panelworks.ways import made_way, plain_way, time_of

from tests.helpers import ODD_THINGS, at, cells_of, least_stock, places, refusal, refuses_in_order
from tests.stepping import (
    NO_STEPS,
    WRONG_DEPTHS,
    WRONG_FIELDS,
    WRONG_TOOLS,
    by_words,
    first,
    fit_by_words,
    rows_by_words,
)

# A step of two levels, and one of one.
FIELD = (2, ((2, 0, 1),))
TOOLS = ((1, 6),)
SMALL_TOOLS = [(side, length) for side in (1, 2) for length in range(1, 7)]
SIZES = [(w, d, h) for w in range(1, 7) for d in range(1, 7) for h in range(1, 7) if w * d * h <= 6]


def small_works(chance, many):
    for _ in range(many):
        wide, long, high = chance.choice(SIZES)
        some = [0, 0, chance.randint(0, high)]
        rows = tuple(tuple(chance.choice(some) for _ in range(wide)) for _ in range(long))
        tools = tuple(chance.sample(SMALL_TOOLS, chance.randint(1, 2)))
        yield (high, rows), tools, chance.choice((1, 1, 2, 2, 3, 6))


def is_above(stock, goal):
    return all(at(stock, cell) >= at(goal, cell) for cell in cells_of(goal))


def steps_from(field, state, tools, single):
    """All steps that a state may have, or those of one cell or level alone."""
    tool, i, j, height, _ = state
    found = [("tool",) + one for one in tools] + [("up",)]
    found += [("down", one) for one in range(height) if not single or one == height - 1]
    if tool:
        for x, y in places(field, tool):
            if not single or abs(x - i) + abs(y - j) == 1:
                found += [("go", x, y), ("cut", x, y)]
    return found


def moves(field, state, tools, depth, goal, single=True):
    for step in steps_from(field, state, tools, single):
        told = by_words(state, step, depth)
        if isinstance(told[0], tuple) and is_above(told[0][4], goal):
            yield told[0], told[1]


def times_by_words(field, tools, depth, single=False):
    """The least time of each state that is met from the first one on, by all steps there are."""
    goal = least_stock(field, tools)
    times, queue, done = {first(field): 0}, [(0, first(field))], set()
    while queue:
        time, state = heappop(queue)
        if state in done:
            continue
        done.add(state)
        for behind, more in moves(field, state, tools, depth, goal, single):
            if time + more < times.get(behind, 10**6):
                times[behind] = time + more
                heappush(queue, (time + more, behind))
    return times


def least_by_words(field, tools, times):
    goal = least_stock(field, tools)
    return min(time for state, time in times.items() if state[4] == goal)


def potentials_back(field, tools, depth, times):
    """How much each state that is met lacks to the nearest goal: numbers of another maker."""
    goal = least_stock(field, tools)
    ahead = {state: [] for state in times}
    for state in times:
        for behind, more in moves(field, state, tools, depth, goal):
            ahead[behind].append((state, more))
    found = {state: 0 for state in times if state[4] == goal}
    queue = [(0, state) for state in found]
    queue.sort()
    while queue:
        time, state = heappop(queue)
        if time > found[state]:
            continue
        for other, more in ahead[state]:
            if time + more < found.get(other, 10**6):
                found[other] = time + more
                heappush(queue, (time + more, other))
    return tuple((state, number) for state, number in found.items() if number > 0)


def place_by_words(field, tools, paper, depth):
    """Where a paper of rows by their form is refused, None where it isn't."""
    way, rows = paper
    goal = least_stock(field, tools)
    if not fit_by_words(field, tools, way, depth):
        return ("way",)
    met = set()
    for row, (state, number) in enumerate(rows):
        if state in met or state[4] == goal or number < 1:
            return ("row", row)
        met.add(state)
    numbers = dict(rows)
    for row, (state, number) in enumerate(rows):
        if any(numbers.get(behind, 0) < number - more for behind, more in moves(field, state, tools, depth, goal)):
            return ("move", row)
    time = sum(row[1] for row in rows_by_words(field, way, depth))
    return None if numbers.get(first(field), 0) == time else ("first",)


class Small(unittest.TestCase):
    def test_fields(self):
        for wide, long, high, small in (
            (1, 1, 6, True),
            (6, 1, 1, True),
            (1, 6, 1, True),
            (3, 2, 1, True),
            (1, 3, 2, True),
            (2, 1, 3, True),
            (7, 1, 1, False),
            (1, 7, 1, False),
            (2, 2, 2, False),
            (4, 1, 2, False),
            (1, 2, 4, False),
            (2, 4, 1, False),
            (8, 8, 6, False),
        ):
            for height in (0, high):
                field = (high, ((height,) * wide,) * long)
                self.assertIs(is_small(field, TOOLS), small)
        self.assertIs(is_small(field=FIELD, tools=()), True)

    def test_tools(self):
        for tools, small in (
            ((), True),
            (((2, 1),), True),
            (((3, 1),), False),
            (((4, 6),), False),
            (((1, 6), (2, 6)), True),
            (((2, 1), (2, 6)), True),
            (((1, 6), (3, 6)), False),
            (((3, 6), (1, 6)), False),
            (((1, 1), (1, 2), (1, 3)), False),
            (((1, 1), (1, 2), (2, 3), (2, 4)), False),
        ):
            self.assertIs(is_small(FIELD, tools), small)
            if not small:
                for call in (least_way, least_paper):
                    refusal(self, TooGreat, call, FIELD, tools)
                refusal(self, TooGreat, check_least, FIELD, tools, None)
            self.assertIs(is_small((1, ((1,) * 7,)), tools), False)


class Least(unittest.TestCase):
    def test_told(self):
        # A tool is taken, goes one cell, sinks one level, cuts one cell, is back, and sinks again.
        way = least_way(FIELD, TOOLS)
        self.assertTrue(fit_by_words(FIELD, TOOLS, way, 2))
        self.assertEqual(time_of(FIELD, way), 20 + 2 + 2 + 3 + 2)
        self.assertEqual(time_of(FIELD, least_way(field=FIELD, tools=TOOLS, depth=1), depth=1), 29)
        for high in range(1, 7):
            way = least_way((high, ((0,),)), TOOLS)
            self.assertEqual(time_of((high, ((0,),)), way), 20 + 2 * high)

    def test_nothing_to_go(self):
        for field, tools in ((FIELD, ()), ((2, ((2, 2, 2),)), TOOLS), ((2, ((2, 0, 2),)), ((2, 1), (2, 6)))):
            self.assertEqual(least_way(field, tools), ())
            self.assertEqual(least_paper(field, tools), ((), ()))
            self.assertEqual(check_least(field, tools, ((), ())), 0)
            told = refusal(self, BadPaper, check_least, field, tools, ((("tool", 1, 1),), ()))
            self.assertEqual(told.place, ("way",))

    def test_by_chance(self):
        works = list(small_works(random.Random(321), 70))
        works.append(((1, ((0, 0, 0), (0, 0, 0))), ((2, 1), (1, 1)), 1))
        works.append(((2, ((0,), (0,), (0,))), ((2, 2), (1, 1)), 2))
        works.append(((6, ((0,),)), ((2, 2), (1, 1)), 3))
        for field, tools, depth in works:
            least = least_by_words(field, tools, times_by_words(field, tools, depth))
            way, rows = least_paper(field, tools, depth=depth)
            for one in (way, least_way(field, tools, depth=depth)):
                self.assertTrue(fit_by_words(field, tools, one, depth))
                self.assertEqual(sum(row[1] for row in rows_by_words(field, one, depth)), least)
            self.assertEqual(check_least(field, tools, (way, rows), depth=depth), least)
            self.assertIsNone(place_by_words(field, tools, (way, rows), depth))
            self.assertLessEqual(low(field, tools, depth=depth), least)
            for call in (plain_way, made_way):
                self.assertLessEqual(least, time_of(field, call(field, tools, depth=depth), depth=depth))


class Looker(unittest.TestCase):
    def test_papers_of_another_maker(self):
        chance = random.Random(322)
        met = 0
        for field, tools, depth in small_works(chance, 40):
            times = times_by_words(field, tools, depth, single=True)
            least = least_by_words(field, tools, times)
            way, rows = least_paper(field, tools, depth=depth)
            back = list(potentials_back(field, tools, depth, times))
            chance.shuffle(back)
            met += dict(back) != dict(rows)
            both = {state: max(dict(back).get(state, 0), dict(rows).get(state, 0)) for state, _ in back}
            for some in (tuple(back), tuple(both.items()), rows[::-1]):
                self.assertEqual(check_least(field, tools, (way, some), depth=depth), least)
            # Another way of the same time.
            if way and way[-1] != ("up",):
                merged = made_way(field, tools, depth=depth)
                if time_of(field, merged, depth=depth) == least:
                    self.assertEqual(check_least(field, tools, (merged, rows), depth=depth), least)
        self.assertGreater(met, 20)

    def test_states_that_are_never_met(self):
        way, rows = least_paper(FIELD, TOOLS)
        solid = first(FIELD)[4]
        more = (
            # A tool that is none of these; a stock below what is reached, from which no move leads anywhere.
            ((3, 1), 0, 0, 2, solid),
            ((1, 6), 0, 0, 2, (2, ((0, 2, 2),))),
            ((1, 6), 0, 0, 0, solid),
        )
        self.assertEqual(check_least(field=FIELD, tools=TOOLS, paper=(way, rows + ((more[0], 1),)), depth=2), 29)
        self.assertEqual(check_least(FIELD, TOOLS, (way, rows + ((more[1], 10**9),))), 29)
        for state, number in ((more[0], 2), (more[2], 500)):
            told = refusal(self, BadPaper, check_least, FIELD, TOOLS, (way, ((state, number),) + rows))
            self.assertEqual(told.place, ("move", 0))
        told = refusal(self, BadPaper, check_least, FIELD, TOOLS, (way, rows + ((more[0], 50),)))
        self.assertEqual(told.place, ("move", len(rows)))

    def test_no_paper(self):
        way, rows = least_paper(FIELD, TOOLS)
        wrong = ODD_THINGS + ((way,), (way, rows, ()), [way, rows], (list(way), rows), (way, list(rows)))
        wrong += ((way, dict(rows)), (None, rows), (way, None), ((None,) + way, rows), (rows, way))
        for thing in wrong:
            self.assertIsNone(refusal(self, BadPaper, check_least, FIELD, TOOLS, thing).place, thing)
        for thing in NO_STEPS:
            told = refusal(self, BadPaper, check_least, FIELD, TOOLS, (way + (thing,), rows))
            self.assertIsNone(told.place)

    def test_no_fit_way(self):
        way, rows = least_paper(FIELD, TOOLS)
        for one in (
            (),
            way[:-1],
            way[1:],
            way + (("up",), ("up",)),
            way + (("cut", 0, 0),),
            (("tool", 1, 5),) + way[1:],
            way + (("up",), ("tool", 2, 6)),
        ):
            # Ahead of rows that can't be.
            for some in (rows, (None,) + rows, ()):
                told = refusal(self, BadPaper, check_least, FIELD, TOOLS, (one, some))
                self.assertEqual(told.place, ("way",))
        # A way that is fit by a greater depth alone.
        deep = (("tool", 1, 6), ("go", 1, 0), ("down", 0), ("up",), ("go", 2, 0), ("down", 1))
        self.assertEqual(refusal(self, BadPaper, check_least, FIELD, TOOLS, (deep, rows)).place, ("first",))
        self.assertEqual(refusal(self, BadPaper, check_least, FIELD, TOOLS, (deep, rows), depth=1).place, ("way",))

    def test_rows(self):
        way, rows = least_paper(FIELD, TOOLS)
        goal = (2, ((2, 0, 1),))
        state, number = rows[2]
        wrong = [thing for thing in ODD_THINGS] + [
            (state,),
            (state, number, 1),
            [state, number],
            (list(state), number),
            (state[:4], number),
            ((state[0], 5, 0, 2, state[4]), number),
            ((state[0], 0, 0, 3, state[4]), number),
            ((state[0], 0, 0, 2, (3, state[4][1])), number),
            ((state[0], 0, 0, 2, (2, ((2, 2),))), number),
            (((), 1, 0, 2, first(FIELD)[4]), number),
            (((5, 1), 0, 0, 2, first(FIELD)[4]), number),
            (None, number),
            (state, 0),
            (state, -1),
            (state, True),
            (state, 1.0),
            (state, (1, 1)),
            (state, None),
            rows[0],
            (rows[1][0], 1),
            ((state[0], 1, 0, 0, goal), 1),
            ((state[0], 1, 0, 2, goal), 1),
            (((), 0, 0, 2, goal), 1),
        ]
        for thing in wrong:
            for some in (rows[:2] + (thing,) + rows[3:], rows[:2] + (thing, None)):
                told = refusal(self, BadPaper, check_least, FIELD, TOOLS, (way, some))
                self.assertEqual(told.place, ("row", 2), thing)
        # Ahead of moves that come to too much.
        told = refusal(self, BadPaper, check_least, FIELD, TOOLS, (way, ((rows[0][0], 999),) + rows[1:] + (None,)))
        self.assertEqual(told.place, ("row", len(rows)))

    def test_moves_and_the_first_number(self):
        chance = random.Random(323)
        met = {}
        for field, tools, depth in small_works(chance, 40):
            way, rows = least_paper(field, tools, depth=depth)
            if not rows:
                continue
            plain = plain_way(field, tools, depth=depth)
            spoilt = [(plain, rows), (way, ()), (way, rows[1:])]
            spoilt.append((way, tuple((state, number - 1) for state, number in rows if number > 1)))
            spoilt.append((way, tuple((state, number + 1) for state, number in rows)))
            for _ in range(4):
                at_row = chance.randrange(len(rows))
                state, number = rows[at_row]
                other = ((state, max(1, number + chance.choice((-2, -1, 1, 2, 20)))),)
                spoilt.append((way, rows[:at_row] + other + rows[at_row + 1:]))
                spoilt.append((way, rows[:at_row] + rows[at_row + 1:]))
            for paper in spoilt:
                wanted = place_by_words(field, tools, paper, depth)
                met[wanted and wanted[0]] = met.get(wanted and wanted[0], 0) + 1
                if wanted is None:
                    self.assertEqual(check_least(field, tools, paper, depth=depth), dict(rows)[first(field)])
                else:
                    told = refusal(self, BadPaper, check_least, field, tools, paper, depth=depth)
                    self.assertEqual(told.place, wanted)
        self.assertEqual(set(met), {None, "move", "first"})
        self.assertGreater(min(met.values()), 5)


class Refused(unittest.TestCase):
    def test_in_order(self):
        good = {"field": FIELD, "tools": TOOLS}
        wrongs = [("field", WRONG_FIELDS), ("tools", WRONG_TOOLS)]
        refuses_in_order(self, is_small, good, wrongs)
        wrongs.append(("depth", WRONG_DEPTHS))
        for call in (least_way, least_paper):
            refuses_in_order(self, call, good, wrongs)
        wrongs.append(("paper", [(None, BadPaper, (None,)), (((), ()), BadPaper, (("way",),))]))
        refuses_in_order(self, check_least, {**good, "paper": least_paper(FIELD, TOOLS)}, wrongs)

    def test_too_great(self):
        great = (1, ((0,) * 7,))
        for call in (least_way, least_paper):
            refuses_in_order(self, call, {"field": great, "tools": TOOLS}, [("tools", WRONG_TOOLS)])
            refuses_in_order(self, call, {"field": great, "tools": TOOLS}, [("depth", WRONG_DEPTHS)])
            refusal(self, TooGreat, call, great, TOOLS)
            refusal(self, TooGreat, call, FIELD, ((3, 1),), depth=6)
        # Ahead of the paper.
        refusal(self, TooGreat, check_least, great, TOOLS, None)
        refusal(self, TooGreat, check_least, FIELD, ((3, 1),), ((), ()))
        for depth, error, _ in WRONG_DEPTHS:
            refusal(self, error, check_least, great, TOOLS, None, depth=depth)

    def test_depth_is_by_name(self):
        for call, things in ((least_way, ()), (least_paper, ()), (check_least, (least_paper(FIELD, TOOLS),))):
            with self.assertRaises(TypeError):
                call(FIELD, TOOLS, *things, 2)


if __name__ == "__main__":
    unittest.main()
