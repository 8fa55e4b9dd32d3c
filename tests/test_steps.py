import random
import unittest

from panelworks.errors import (
    BadField,
    BadWay,
    Beyond,
    Blocked,
    FaultError,
    Lifted,
    Lowered,
    NoToolThere,
    OutOfPlace,
    TooDeep,
    WorksError,
)
from panelworks.steps import first_state, is_state, is_step, step_done
from panelworks.words import DEPTH

from tests.helpers import NO_FIELDS, NO_TOOLS, ODD_THINGS, field_from, refusal
from tests.stepping import NO_STEPS, any_step, by_words

FIELD = (4, ((1,) * 5,) * 4)
SOLID = (4, ((4,) * 5,) * 4)
FIRST = ((), 0, 0, 4, SOLID)
STEPS = (("tool", 1, 1), ("go", 1, 1), ("down", 3), ("cut", 2, 1), ("up",))


def stock_with(stock, **heights):
    """A stock with some cells at other heights: c12=3 is the cell (1, 2) at 3."""
    rows = [list(row) for row in stock[1]]
    for name, height in heights.items():
        rows[int(name[2])][int(name[1])] = height
    return (stock[0], tuple(tuple(row) for row in rows))


class Steps(unittest.TestCase):
    def test_steps(self):
        good = STEPS + (
            ("tool", 4, 6),
            ("go", -3, 7),
            ("go", 7, -3),
            ("cut", -3, -3),
            ("cut", 7, 7),
            ("down", 0),
            ("down", 5),
        )
        for step in good:
            self.assertIs(is_step(step), True)
        self.assertIs(is_step(thing=("up",)), True)
        for thing in NO_STEPS:
            self.assertIs(is_step(thing), False, thing)

    def test_first_state(self):
        self.assertEqual(first_state(FIELD), FIRST)
        self.assertEqual(first_state(field=(1, ((0,),))), ((), 0, 0, 1, (1, ((1,),))))
        for field, place in NO_FIELDS:
            self.assertEqual(refusal(self, BadField, first_state, field).place, place)


class States(unittest.TestCase):
    def test_let_by(self):
        some = stock_with(SOLID, c00=0, c43=2)
        for state in (
            FIRST,
            ((), 0, 0, 4, some),
            ((1, 1), 0, 0, 4, SOLID),
            ((1, 6), 4, 3, 0, some),
            ((4, 1), -3, -3, 2, some),
            ((4, 1), 4, 3, 4, some),
            ((2, 3), -1, 3, 1, some),
        ):
            self.assertIs(is_state(FIELD, state), True, state)
        self.assertIs(is_state(field=FIELD, thing=FIRST), True)

    def test_none(self):
        wrong = ODD_THINGS + (
            FIRST[:4],
            FIRST + (0,),
            list(FIRST),
            ((), 1, 0, 4, SOLID),
            ((), 0, 1, 4, SOLID),
            ((), 0, 0, 3, SOLID),
            ((), 0, 0, 5, SOLID),
            ((), False, 0, 4, SOLID),
            ((), 0, False, 4, SOLID),
            ([], 0, 0, 4, SOLID),
            (None, 0, 0, 4, SOLID),
            ((1, 1), 5, 0, 4, SOLID),
            ((1, 1), 0, 4, 4, SOLID),
            ((1, 1), -1, 0, 4, SOLID),
            ((2, 1), 0, -2, 4, SOLID),
            ((1, 1), 0, 0, 5, SOLID),
            ((1, 1), 0, 0, -1, SOLID),
            ((1, 1), 0, 0, True, SOLID),
            ((1, 1), True, 0, 4, SOLID),
            ((1, 1), 0, None, 4, SOLID),
            ((1, 1), (0, 0), 4, 4, SOLID),
            ((1, 1), 0, 0, 4, (3, ((3,) * 5,) * 4)),
            ((1, 1), 0, 0, 4, (5, ((3,) * 5,) * 4)),
            ((1, 1), 0, 0, 4, (4, ((4,) * 5,) * 3)),
            ((1, 1), 0, 0, 4, (4, ((4,) * 4,) * 4)),
            ((1, 1), 0, 0, 4, (4, ((4,) * 4,) * 5)),
            ((1, 1), 0, 0, 4, SOLID[1]),
            ((1, 1), 0, 0, 4, None),
            ((1, 1), 0, 0, 4, stock_with(SOLID, c00=5)),
            ((1, 1), 0, 0, 4, list(SOLID)),
            ((), 0, 0, True, (1, ((1,),))),
        )
        for thing in wrong:
            self.assertIs(is_state(FIELD, thing), False, thing)
        self.assertIs(is_state((1, ((1,),)), ((), 0, 0, True, (1, ((1,),)))), False)
        for tool in NO_TOOLS:
            if tool != ():
                self.assertIs(is_state(FIELD, (tool, 0, 0, 4, SOLID)), False)
        for field, place in NO_FIELDS:
            self.assertEqual(refusal(self, BadField, is_state, field, FIRST).place, place)


class Done(unittest.TestCase):
    def test_a_way(self):
        state = FIRST
        told = (
            (("tool", 2, 3), ((2, 3), 0, 0, 4, SOLID), 20, 0),
            (("tool", 2, 2), ((2, 2), 0, 0, 4, SOLID), 20, 0),
            (("go", 3, -1), ((2, 2), 3, -1, 4, SOLID), 4, 0),
            (("go", 1, 1), ((2, 2), 1, 1, 4, SOLID), 4, 0),
            (("down", 3), ((2, 2), 1, 1, 3, stock_with(SOLID, c11=3, c12=3, c21=3, c22=3)), 2, 4),
            (("down", 2), ((2, 2), 1, 1, 2, stock_with(SOLID, c11=2, c12=2, c21=2, c22=2)), 2, 4),
            (
                ("cut", 2, 1),
                ((2, 2), 2, 1, 2, stock_with(SOLID, c11=2, c12=2, c21=2, c22=2, c31=2, c32=2)),
                3,
                4,
            ),
            (
                ("cut", 1, 1),
                ((2, 2), 1, 1, 2, stock_with(SOLID, c11=2, c12=2, c21=2, c22=2, c31=2, c32=2)),
                1,
                0,
            ),
            (
                ("cut", 4, 1),
                (
                    (2, 2),
                    4,
                    1,
                    2,
                    stock_with(SOLID, c11=2, c12=2, c21=2, c22=2, c31=2, c32=2, c41=2, c42=2),
                ),
                1 + 3 + 1,
                4,
            ),
            (
                ("up",),
                (
                    (2, 2),
                    4,
                    1,
                    4,
                    stock_with(SOLID, c11=2, c12=2, c21=2, c22=2, c31=2, c32=2, c41=2, c42=2),
                ),
                2,
                0,
            ),
            (
                ("tool", 2, 2),
                (
                    (2, 2),
                    0,
                    0,
                    4,
                    stock_with(SOLID, c11=2, c12=2, c21=2, c22=2, c31=2, c32=2, c41=2, c42=2),
                ),
                20,
                0,
            ),
        )
        for step, behind, time, taken in told:
            self.assertEqual(step_done(state, step), (behind, time, taken), step)
            state = behind

    def test_a_cut_back_and_up_and_over_the_border(self):
        state = ((2, 6), 2, 3, 3, SOLID)
        behind, time, taken = step_done(state, ("cut", 2, -1))
        self.assertEqual((behind[:4], time, taken), (((2, 6), 2, -1, 3), 3 + 3 + 3 + 1, 8))
        self.assertEqual(behind[4], stock_with(SOLID, c20=3, c30=3, c21=3, c31=3, c22=3, c32=3, c23=3, c33=3))
        behind, time, taken = step_done(state=state, step=("cut", -1, 3), depth=1)
        self.assertEqual((behind[:4], time, taken), (((2, 6), -1, 3, 3), 7, 3))

    def test_depth_is_by_name(self):
        state = ((1, 6), 1, 1, 4, SOLID)
        self.assertEqual(DEPTH, 2)
        self.assertEqual(step_done(state, ("down", 2))[1:], (4, 2))
        self.assertEqual(refusal(self, TooDeep, step_done, state, ("down", 1)).place, (1, 1))
        self.assertEqual(refusal(self, TooDeep, step_done, state, ("down", 2), depth=1).place, (1, 1))
        self.assertEqual(step_done(state, ("down", 0), depth=4)[1:], (8, 4))
        self.assertEqual(step_done(state, ("down", 0), depth=6)[1:], (8, 4))
        with self.assertRaises(TypeError):
            step_done(state, ("down", 2), 2)

    def test_by_chance(self):
        chance = random.Random(211)
        met = {}
        for _ in range(30):
            field = field_from(chance, most=4)
            state, depth = first_state(field), chance.randint(1, 3)
            for _ in range(60):
                step = any_step(chance, field, state)
                wanted = by_words(state, step, depth)
                if isinstance(wanted[0], tuple):
                    told = step_done(state, step, depth=depth)
                    self.assertEqual(told, wanted)
                    self.assertIs(is_state(field, told[0]), True)
                    state = told[0]
                    key = step[0]
                else:
                    key = wanted[0].__name__
                    found = refusal(self, wanted[0], step_done, state, step, depth=depth)
                    if wanted[1] is not None:
                        self.assertEqual(found.place, wanted[1])
                met[key] = met.get(key, 0) + 1
        words = "tool go down cut up NoToolThere Lowered Lifted Beyond OutOfPlace Blocked TooDeep".split()
        self.assertEqual(sorted(met), sorted(words))
        self.assertGreater(min(met.values()), 3)


class Refused(unittest.TestCase):
    def test_depth_first(self):
        for depth in ODD_THINGS + (0, 7, -1, 2.0, (2,)):
            refusal(self, OutOfPlace, step_done, FIRST, None, depth=depth)
            refusal(self, OutOfPlace, step_done, FIRST, ("up",), depth=depth)
        for depth in (1, 6):
            self.assertEqual(step_done(FIRST, ("tool", 1, 1), depth=depth)[1], 20)

    def test_no_step(self):
        for state in (FIRST, ((1, 1), 0, 0, 4, SOLID), ((1, 1), 0, 0, 2, SOLID)):
            for thing in NO_STEPS:
                self.assertIsNone(refusal(self, BadWay, step_done, state, thing).number)

    def test_without_a_tool(self):
        # Also where it would be lifted, beyond, or where it is.
        for step in (("up",), ("cut", 0, 0), ("cut", 7, 7), ("go", 0, 0), ("go", 7, 7), ("down", 5), ("down", 3)):
            refusal(self, NoToolThere, step_done, FIRST, step)

    def test_lowered_and_lifted(self):
        high, low = ((2, 2), 1, 1, 4, SOLID), ((2, 2), 1, 1, 3, SOLID)
        for step in (("tool", 1, 1), ("tool", 2, 2), ("go", 2, 2), ("go", 7, 7), ("go", 1, 1)):
            refusal(self, Lowered, step_done, low, step)
        for step in (("up",), ("cut", 1, 1), ("cut", 2, 1), ("cut", 7, 7), ("cut", 2, 2)):
            refusal(self, Lifted, step_done, high, step)

    def test_beyond(self):
        high, low = ((2, 1), 1, 1, 4, SOLID), ((2, 1), 1, 1, 1, SOLID)
        for place in ((5, 0), (0, 4), (-2, 0), (0, -2), (7, 7), (-3, -3), (1, 4), (5, 1)):
            self.assertEqual(refusal(self, Beyond, step_done, high, ("go",) + place).place, place)
            # Ahead of a cut along both axes, and of what is in its way.
            self.assertEqual(refusal(self, Beyond, step_done, low, ("cut",) + place).place, place)
        self.assertEqual(step_done(high, ("go", -1, -1))[1], 4)

    def test_out_of_place(self):
        high, low = ((2, 1), 1, 1, 4, SOLID), ((2, 1), 1, 1, 2, SOLID)
        refusal(self, OutOfPlace, step_done, high, ("go", 1, 1))
        for step in (("down", 4), ("down", 5)):
            refusal(self, OutOfPlace, step_done, high, step)
        for step in (("down", 2), ("down", 3), ("down", 5), ("cut", 1, 1), ("cut", 2, 2), ("cut", 0, 3)):
            refusal(self, OutOfPlace, step_done, low, step)

    def test_blocked_then_too_deep(self):
        high = ((1, 1), 1, 1, 4, SOLID)
        # By its ring, from 0 on, though it would be too deep, too.
        self.assertEqual(refusal(self, Blocked, step_done, high, ("down", 0)).place, (0, 0))
        self.assertEqual(refusal(self, Blocked, step_done, high, ("down", 2)).place, (0, 0))
        self.assertEqual(step_done(high, ("down", 3))[1:], (2, 1))
        lower = ((1, 1), 1, 1, 4, stock_with(SOLID, c00=3, c01=3, c02=3, c10=3, c12=3, c20=3, c21=3))
        self.assertEqual(refusal(self, Blocked, step_done, lower, ("down", 2)).place, (2, 2))
        lower = ((2, 2), 0, 0, 4, stock_with(SOLID, c00=1, c20=3, c21=3, c22=3, c02=3, c12=3))
        self.assertEqual(refusal(self, TooDeep, step_done, lower, ("down", 1)).place, (0, 1))
        # What stands just so high is neither.
        self.assertEqual(step_done(lower, ("down", 2))[2], 6)

    def test_a_cut_place_by_place(self):
        stock = stock_with((4, ((3,) * 5,) * 4), c00=0, c30=4)
        state = ((1, 3), 0, 0, 1, stock)
        self.assertEqual(refusal(self, TooDeep, step_done, state, ("cut", 3, 0)).place, (3, 0))
        self.assertEqual(step_done(state, ("cut", 2, 0))[1:], (6, 4))
        self.assertEqual(state[4], stock)
        # Too deep at one place goes ahead of what is in the way at the next one.
        stock = stock_with((4, ((2,) * 5,) * 4), c00=0, c10=4, c31=4)
        state = ((1, 3), 0, 0, 0, stock)
        self.assertEqual(refusal(self, TooDeep, step_done, state, ("cut", 3, 0), depth=3).place, (1, 0))
        state = ((1, 2), 0, 0, 1, stock)
        self.assertEqual(refusal(self, Blocked, step_done, state, ("cut", 3, 0), depth=3).place, (3, 1))
        # What the cut took away at one place isn't in the ring of the next one any more, nor taken twice.
        stock = (3, ((1, 3, 2, 1), (1, 1, 1, 1)))
        self.assertEqual(refusal(self, Blocked, step_done, ((1, 1), 2, 1, 1, stock), ("cut", 1, 1)).place, (1, 0))
        self.assertEqual(refusal(self, Blocked, step_done, ((1, 1), 3, 0, 1, stock), ("cut", 0, 0)).place, (1, 0))
        self.assertEqual(step_done(((1, 1), 0, 0, 1, stock), ("cut", 3, 0))[1:], (3 + 3 + 1, 3))
        self.assertEqual(step_done(((2, 1), -1, 0, 1, stock), ("cut", 2, 0))[1:], (3 + 3 + 1, 3))

    def test_nothing_is_changed(self):
        state = ((2, 2), 1, 1, 4, SOLID)
        for step in (("down", 2), ("down", 1), ("cut", 2, 1), ("go", 7, 7), None, ("up",), ("go", 2, 0)):
            try:
                step_done(state, step)
            except (WorksError, FaultError):
                pass
            self.assertEqual(state, ((2, 2), 1, 1, 4, SOLID))
        self.assertEqual(SOLID, (4, ((4,) * 5,) * 4))


if __name__ == "__main__":
    unittest.main()
