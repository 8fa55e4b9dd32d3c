import random
import unittest

from panelworks.errors import (
    BadField,
    BadWay,
    Beyond,
    Blocked,
    FaultError,
    Lifted,
    Lowered,
    NoToolThere,
    Nothing,
    OutOfPlace,
    TooDeep,
    WorksError,
)
from panelworks.machine import Machine
from panelworks.ways import left_by, made_way, plain_way, time_of
from panelworks.waytext import way_text

from tests.helpers import NO_FIELDS, ODD_THINGS, at, cells_of, field_from, refusal, tools_from, under
from tests.stepping import NO_STEPS, WRONG_DEPTHS, any_step, by_words, first

FIELD = (3, ((0, 1, 2), (3, 3, 3)))
SOLID = (3, ((3, 3, 3), (3, 3, 3)))
WAY = (("tool", 1, 2), ("go", 1, 0), ("down", 2), ("cut", 0, 0), ("up",), ("go", 1, 0), ("down", 1))
NONE = ((None,) * 3,) * 2
WORDS = {
    BadWay: "step",
    NoToolThere: "tool",
    Lowered: "lowered",
    Lifted: "lifted",
    Beyond: "beyond",
    OutOfPlace: "place",
    Blocked: "blocked",
    TooDeep: "deep",
}


def told(machine):
    """All that a machine tells but its log and runs."""
    return (
        machine.state(),
        machine.stock(),
        machine.time(),
        machine.taken(),
        machine.steps(),
        machine.marks(),
        machine.busy(),
        len(machine),
        str(machine),
    )


class Book:
    """What a machine must tell, by the words of the document."""

    def __init__(self, field, depth):
        self.field, self.depth = field, depth
        self.state, self.done, self.log, self.runs = first(field), [], [], []

    def do(self, step):
        """The error that is due, None where the step is done."""
        state = self.done[-1][1] if self.done else first(self.field)
        found = by_words(state, step, self.depth)
        if not isinstance(found[0], tuple):
            self.log.append(("refused", WORDS[found[0]]))
            return found[0]
        self.done.append((step,) + found)
        self.log.append(("done", step, found[1]))
        return None

    def back(self):
        if not self.done:
            self.log.append(("refused", "nothing"))
            return
        self.log.append(("back", self.done.pop()[0]))

    def marks(self):
        """The number of the last step behind which a cell stands lower than ahead of it."""
        found = {cell: None for cell in cells_of(self.field)}
        stock = first(self.field)[4]
        for number, (_, state, _, _) in enumerate(self.done):
            for cell in found:
                if at(state[4], cell) < at(stock, cell):
                    found[cell] = number
            stock = state[4]
        return tuple(tuple(found[i, j] for i in range(len(row))) for j, row in enumerate(self.field[1]))

    def check(self, case, machine):
        state = self.done[-1][1] if self.done else first(self.field)
        steps = tuple(row[0] for row in self.done)
        case.assertEqual(machine.state(), state)
        case.assertEqual(machine.stock(), state[4])
        case.assertEqual(machine.steps(), steps)
        case.assertEqual(machine.time(), sum(row[2] for row in self.done))
        case.assertEqual(machine.taken(), sum(row[3] for row in self.done))
        case.assertEqual(machine.marks(), self.marks())
        case.assertEqual(machine.log(), self.log)
        case.assertEqual(machine.runs(), self.runs)
        case.assertIs(machine.busy(), False)
        case.assertEqual((len(machine), str(machine)), (len(steps), way_text(steps)))


class Told(unittest.TestCase):
    def test_at_first(self):
        for machine in (Machine(FIELD), Machine(field=SOLID, depth=2)):
            self.assertEqual(told(machine), (((), 0, 0, 3, SOLID), SOLID, 0, 0, (), NONE, False, 0, ""))
            self.assertEqual((machine.log(), machine.runs()), ([], []))

    def test_steps(self):
        machine = Machine(FIELD)
        self.assertEqual([machine.do(step) for step in WAY], [20, 1, 2, 3, 1, 1, 4])
        self.assertEqual(machine.stock(), (3, ((2, 1, 3), (3, 3, 3))))
        self.assertEqual(machine.marks(), ((3, 6, None), (None, None, None)))
        self.assertEqual((machine.time(), machine.taken(), machine.steps()), (32, 3, WAY))
        self.assertEqual(machine.state(), ((1, 2), 1, 0, 1, machine.stock()))
        self.assertEqual(str(machine), "tool 1 2\ngo 1 0\ndown 2\ncut 0 0\nup\ngo 1 0\ndown 1")
        self.assertEqual(machine.log()[:2], [("done", WAY[0], 20), ("done", WAY[1], 1)])
        self.assertEqual(machine.runs(), [])
        self.assertEqual(machine.do(step=("up",)), 2)

    def test_back(self):
        machine = Machine(FIELD)
        machine.run(WAY)
        before = Machine(FIELD)
        before.run(WAY[:-1])
        self.assertEqual(machine.back(), WAY[-1])
        self.assertEqual(told(machine), told(before))
        self.assertEqual(machine.log()[-1], ("back", WAY[-1]))
        # The next step has the number of the one that was taken back.
        machine.do(("down", 2))
        machine.do(("down", 1))
        self.assertEqual(machine.marks(), ((3, 7, None), (None, None, None)))
        self.assertEqual([machine.back() for _ in range(8)], [("down", 1), ("down", 2)] + list(WAY[5::-1]))
        self.assertEqual(told(machine), told(Machine(FIELD)))
        for _ in range(2):
            refusal(self, Nothing, machine.back)
            self.assertEqual(machine.log()[-1], ("refused", "nothing"))
        self.assertEqual(told(machine), told(Machine(FIELD)))
        self.assertEqual(machine.do(WAY[0]), 20)

    def test_each_word_of_a_refusal(self):
        wide = (4, ((0,) * 5,) * 5)
        machine = Machine(wide, depth=2)
        log = []

        def refuses(error, step, word, place=None):
            ahead = told(machine)
            found = refusal(self, error, machine.do, step)
            self.assertEqual(getattr(found, "place", None), place)
            self.assertEqual(told(machine), ahead)
            log.append(("refused", word))
            self.assertEqual(machine.log(), log)
            self.assertEqual(machine.runs(), [])

        def does(step, time):
            self.assertEqual(machine.do(step), time)
            log.append(("done", step, time))

        for step in NO_STEPS:
            refuses(BadWay, step, "step")
        for step in (("up",), ("go", 0, 0), ("cut", 1, 1), ("down", 0)):
            refuses(NoToolThere, step, "tool")
        does(("tool", 2, 1), 20)
        refuses(Lifted, ("up",), "lifted")
        refuses(Lifted, ("cut", 1, 0), "lifted")
        refuses(Beyond, ("go", 5, 0), "beyond", (5, 0))
        refuses(OutOfPlace, ("go", 0, 0), "place")
        refuses(OutOfPlace, ("down", 4), "place")
        refuses(Blocked, ("down", 2), "blocked", (0, 2))
        does(("go", 3, 3), 6)
        does(("down", 3), 2)
        refuses(Lowered, ("tool", 1, 1), "lowered")
        refuses(Lowered, ("go", 0, 0), "lowered")
        refuses(Beyond, ("cut", -2, 3), "beyond", (-2, 3))
        refuses(OutOfPlace, ("cut", 2, 2), "place")
        refuses(OutOfPlace, ("down", 3), "place")
        does(("up",), 1)
        does(("tool", 1, 6), 20)
        refuses(TooDeep, ("down", 1), "deep", (0, 0))
        self.assertIsNone(getattr(refusal(self, BadWay, machine.do, None), "number"))

    def test_by_chance(self):
        chance = random.Random(351)
        for _ in range(40):
            field, depth = field_from(chance, most=4), chance.randint(1, 3)
            machine, book = Machine(field, depth=depth), Book(field, depth)
            for _ in range(40):
                what = chance.random()
                state = machine.state()
                if what < 0.15:
                    if book.done:
                        self.assertEqual(machine.back(), book.done[-1][0])
                    else:
                        refusal(self, Nothing, machine.back)
                    book.back()
                elif what < 0.3:
                    some = [any_step(chance, field, state) for _ in range(chance.randint(0, 3))]
                    self.run_some(machine, book, some)
                else:
                    step = any_step(chance, field, state)
                    error = book.do(step)
                    if error is None:
                        self.assertEqual(machine.do(step), book.done[-1][2])
                    else:
                        refusal(self, error, machine.do, step)
                book.check(self, machine)

    def run_some(self, machine, book, steps):
        done, error = 0, None
        for step in steps:
            error = book.do(step)
            if error is not None:
                break
            done += 1
        book.runs.append((len(steps), done))
        if error is None:
            self.assertEqual(machine.run(steps), done)
        else:
            refusal(self, error, machine.run, steps)

    def test_what_stands_and_what_marks_tell(self):
        chance = random.Random(352)
        for _ in range(60):
            field = field_from(chance, most=4)
            machine = Machine(field, depth=3)
            # Of each cell all heights at which a tool was lowered over it, with the number of the step.
            came = {cell: [] for cell in cells_of(field)}
            for _ in range(40):
                step, ahead = any_step(chance, field, machine.state()), machine.state()
                try:
                    machine.do(step)
                except (FaultError, WorksError):
                    continue
                if step[0] in ("down", "cut"):
                    tool, i, j, height, _ = machine.state()
                    places = [(i, j)]
                    if step[0] == "cut":
                        x, y = ahead[1:3]
                        across, up = range(min(i, x), max(i, x) + 1), range(min(j, y), max(j, y) + 1)
                        places = [(a, b) for a in across for b in up if (a, b) != (x, y)]
                    for place in places:
                        for cell in under(field, tool, place):
                            came[cell].append((height, len(machine) - 1))
            for cell, some in came.items():
                least = min([height for height, _ in some], default=field[0])
                self.assertEqual(at(machine.stock(), cell), least)
                mark = next((number for height, number in some if height == least), None)
                self.assertEqual(machine.marks()[cell[1]][cell[0]], mark)
            lacking = sum(field[0] - at(machine.stock(), cell) for cell in came)
            self.assertEqual(machine.taken(), lacking)
            self.assertEqual(machine.time(), time_of(field, machine.steps(), depth=3))
            self.assertEqual(machine.stock(), left_by(field, machine.steps(), depth=3))

    def test_ways_are_walked(self):
        chance = random.Random(353)
        for _ in range(15):
            field, tools = field_from(chance, most=5), tools_from(chance)
            for way in (plain_way(field, tools), made_way(field, tools)):
                machine = Machine(field)
                self.assertEqual(machine.run(way), len(way))
                self.assertEqual(machine.stock(), left_by(field, way))
                self.assertEqual(machine.time(), time_of(field, way))


class Runs(unittest.TestCase):
    def test_up_to_the_first_that_is_refused(self):
        machine = Machine(FIELD)
        self.assertEqual(machine.run([]), 0)
        self.assertEqual(machine.run(list(WAY[:2])), 2)
        refusal(self, Lifted, machine.run, (("down", 2), ("up",), ("up",), ("down", 2), None))
        self.assertEqual(machine.steps(), WAY[:2] + (("down", 2), ("up",)))
        self.assertEqual(machine.runs(), [(0, 0), (2, 2), (5, 2)])
        self.assertEqual(machine.log()[-1], ("refused", "lifted"))
        self.assertEqual(len(machine.log()), 5)
        refusal(self, BadWay, machine.run, [None])
        self.assertEqual(machine.runs()[3:], [(1, 0)])
        self.assertEqual(machine.log()[-1], ("refused", "step"))
        self.assertIs(machine.busy(), False)
        self.assertEqual(machine.run(steps=(("down", 1),)), 1)

    def test_one_by_one_in_parts_or_as_one(self):
        chance = random.Random(354)
        for _ in range(20):
            field = field_from(chance, most=4)
            way = made_way(field, tools_from(chance))
            one, parts, singly = Machine(field), Machine(field), Machine(field)
            one.run(way)
            cut = chance.randint(0, len(way))
            parts.run(way[:cut])
            parts.run(list(way[cut:]))
            for step in way:
                singly.do(step)
            self.assertEqual(told(one), told(parts))
            self.assertEqual(told(one), told(singly))
            self.assertEqual(one.log(), parts.log())
            self.assertEqual(one.log(), singly.log())
            self.assertEqual((one.runs(), singly.runs()), ([(len(way), len(way))], []))

    def test_busy(self):
        machine, seen = Machine(FIELD), []

        class Spy(tuple):
            def __len__(self):
                seen.append(machine.busy())
                return tuple.__len__(self)

        machine.run([Spy(("tool", 1, 2)), ("down", 2)])
        self.assertIn(True, seen)
        self.assertIs(machine.busy(), False)
        refusal(self, Lowered, machine.run, [Spy(("go", 1, 0))])
        self.assertIs(machine.busy(), False)

    def test_no_run(self):
        machine = Machine(FIELD)
        machine.do(WAY[0])
        ahead, log = told(machine), machine.log()
        for thing in ODD_THINGS + (iter(WAY), dict.fromkeys(WAY), set(WAY), "up"):
            if not isinstance(thing, (list, tuple)):
                self.assertIsNone(refusal(self, BadWay, machine.run, thing).number)
        self.assertEqual((told(machine), machine.log(), machine.runs()), (ahead, log, []))

    def test_what_is_refused_changes_nothing_but_log_and_runs(self):
        machine = Machine(FIELD)
        machine.run(WAY)
        ahead = told(machine)
        for number, steps in enumerate(([("up",), ("up",)], [None], (("tool", 1, 1),), [("go", 0, 0), ("up",)])):
            with self.assertRaises((FaultError, WorksError)):
                machine.run(steps)
            self.assertIs(machine.busy(), False)
            self.assertEqual(len(machine.runs()), number + 2)
            while len(machine) > len(WAY):
                machine.back()
            self.assertEqual(told(machine), ahead)


class Own(unittest.TestCase):
    def test_what_is_told_is_the_askers(self):
        machine = Machine(FIELD)
        machine.run(WAY)
        steps = list(WAY)
        log, runs = machine.log(), machine.runs()
        machine.log().append(None)
        machine.runs().clear()
        self.assertEqual((machine.log(), machine.runs()), (log, runs))
        machine.do(("up",))
        self.assertEqual((len(log), len(machine.log())), (7, 8))
        self.assertEqual(runs, [(7, 7)])
        other = Machine(FIELD)
        other.run(steps)
        steps.clear()
        self.assertEqual(len(other), 7)

    def test_copied(self):
        machine = Machine(FIELD, depth=1)
        machine.run((("tool", 1, 2), ("down", 2)))
        refusal(self, Blocked, machine.do, ("down", 0))
        other = machine.copied()
        self.assertEqual(told(other), told(machine))
        self.assertEqual((other.log(), other.runs()), (machine.log(), machine.runs()))
        self.assertTrue(other == machine)
        ahead, log = told(machine), machine.log()
        other.do(("down", 1))
        self.assertEqual((told(machine), machine.log(), machine.runs()), (ahead, log, [(2, 2)]))
        self.assertFalse(other == machine)
        other.back()
        other.back()
        other.back()
        refusal(self, Nothing, other.back)
        other.run([("tool", 2, 2), ("go", 1, 1)])
        self.assertEqual((told(machine), machine.log()), (ahead, log))
        refusal(self, TooDeep, other.copied().run, [("down", 1)])
        behind = told(other)
        machine.back()
        machine.do(("go", 1, 0))
        self.assertEqual(told(other), behind)


class Equal(unittest.TestCase):
    def test_equal(self):
        one, other = Machine(FIELD), Machine(SOLID)
        self.assertTrue(one == other)
        self.assertFalse(one != other)
        one.run(WAY)
        self.assertFalse(one == other)
        for step in WAY:
            other.do(step)
        # Of the same steps, whatever was refused and taken back between, and however they were handed in.
        refusal(self, Lowered, other.do, ("tool", 1, 1))
        other.do(("up",))
        other.back()
        self.assertTrue(one == other)
        self.assertNotEqual(one.log(), other.log())

    def test_unequal(self):
        one = Machine(FIELD)
        for other in (Machine((4, ((0,) * 3,) * 2)), Machine((3, ((0,) * 2,) * 3)), Machine(FIELD, depth=1)):
            self.assertFalse(one == other)
            self.assertTrue(one != other)
        for thing in ODD_THINGS + (one.state(), "Machine", WAY):
            self.assertFalse(one == thing)

    def test_by_state_time_and_marks(self):
        def behind(*steps):
            machine = Machine(FIELD)
            machine.run(steps)
            return machine

        tool = ("tool", 1, 2)
        # Another time alone.
        self.assertFalse(behind(tool) == behind(tool, tool))
        self.assertFalse(behind(tool, ("go", 1, 0), ("go", 0, 0)) == behind(tool))
        # Another state alone: over another place, another tool.
        self.assertFalse(behind(tool, ("go", 1, 0)) == behind(tool, ("go", 0, 1)))
        self.assertFalse(behind(tool) == behind(("tool", 1, 3)))
        # Other marks alone: a cell ahead of another one, or the other way round.
        down = (("down", 2), ("up",))
        one = behind(tool, *down, ("go", 1, 0), *down, ("go", 0, 0))
        other = behind(tool, ("go", 1, 0), *down, ("go", 0, 0), *down)
        self.assertEqual((one.state(), one.time()), (other.state(), other.time()))
        self.assertNotEqual(one.marks(), other.marks())
        self.assertFalse(one == other)
        # The same marks and state in another number of steps.
        self.assertTrue(
            behind(tool, ("down", 2), ("up",), ("go", 1, 0), ("go", 2, 0))
            == behind(tool, ("down", 2), ("up",), ("go", 2, 0))
        )


class Refused(unittest.TestCase):
    def test_fields_then_depths(self):
        for field, place in NO_FIELDS:
            self.assertEqual(refusal(self, BadField, Machine, field).place, place)
            self.assertEqual(refusal(self, BadField, Machine, field, depth=0).place, place)
        for depth, error, _ in WRONG_DEPTHS:
            refusal(self, error, Machine, FIELD, depth=depth)
        for depth in range(1, 7):
            machine = Machine((6, ((0,),)), depth=depth)
            machine.do(("tool", 1, 1))
            self.assertEqual(machine.do(("down", 6 - depth)), 2 * depth)
        with self.assertRaises(TypeError):
            Machine(FIELD, 2)


if __name__ == "__main__":
    unittest.main()
