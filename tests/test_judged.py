import random
import unittest

from panelworks.errors import OutOfPlace
from panelworks.judged import balance, is_made, spoils, words_at
from panelworks.reach import reached
from panelworks.ways import left_by, made_way, plain_way

from tests.helpers import at, cells_of, field_from, least_stock, refusal, refuses_in_order, tools_from
from tests.stepping import WRONG_DEPTHS, WRONG_FIELDS, WRONG_WAYS, rows_by_words, way_from

ORDER = ("low", "right", "high", "left", "part")
TARGET = (5, ((1, 1, 1, 1, 1, 1), (2, 2, 2, 2, 5, 0)))
REACHED = (5, ((3, 3, 3, 3, 3, 1), (2, 2, 2, 4, 5, 0)))
STOCK = (5, ((0, 1, 2, 3, 5, 1), (0, 2, 3, 3, 4, 5)))
TOLD = (("low", "right", "part", "left", "high", "right"), ("low", "right", "high", "part", "low", "high"))


def word(target, reach, stands):
    """The word of a cell, straight by the words of the document."""
    if stands < target:
        return "low"
    if stands == target:
        return "right"
    if stands > reach:
        return "high"
    return "left" if stands == reach else "part"


def judged_from(chance):
    """A target, what might be reached, and a stock, by chance."""
    target = field_from(chance, most=4)
    high = target[0]
    reach = (high, tuple(tuple(chance.randint(one, high) for one in row) for row in target[1]))
    if chance.random() < 0.5:
        rows = [[chance.choice(pair) for pair in zip(*rows)] for rows in zip(target[1], reach[1])]
        stock = (high, tuple(tuple(row) for row in rows))
    else:
        stock = (high, tuple(tuple(chance.randint(0, high) for _ in row) for row in target[1]))
    return target, reach, stock


class Words(unittest.TestCase):
    def test_told(self):
        self.assertEqual(words_at(TARGET, REACHED, STOCK), TOLD)
        self.assertEqual(words_at(target=TARGET, reached=TARGET, stock=TARGET), (("right",) * 6,) * 2)
        self.assertEqual(words_at((1, ((0,),)), (1, ((1,),)), (1, ((1,),))), (("left",),))

    def test_balance(self):
        found = balance(TARGET, REACHED, STOCK)
        wanted = {"low": (3, 1 + 2 + 1), "right": (3, 0), "high": (3, 4 + 1 + 5), "left": (1, 2), "part": (2, 1 + 1)}
        self.assertEqual(found, wanted)
        self.assertEqual(tuple(found), ORDER)
        # Words that no cell has aren't there.
        self.assertEqual(balance(target=TARGET, reached=TARGET, stock=TARGET), {"right": (12, 0)})
        field = (2, ((0, 0),))
        found = balance(field, (2, ((2, 2),)), (2, ((1, 2),)))
        self.assertEqual(list(found.items()), [("left", (1, 2)), ("part", (1, 1))])
        found = balance(TARGET, REACHED, STOCK)
        found.clear()
        self.assertEqual(balance(TARGET, REACHED, STOCK), wanted)

    def test_is_made(self):
        self.assertIs(is_made(TARGET, REACHED, STOCK), False)
        self.assertIs(is_made(TARGET, REACHED, REACHED), True)
        self.assertIs(is_made(target=TARGET, reached=TARGET, stock=TARGET), True)
        field, reach = (3, ((0, 1),)), (3, ((2, 1),))
        for stock in ((0, 1), (2, 1)):
            self.assertIs(is_made(field, reach, (3, (stock,))), True)
        for stock in ((1, 1), (3, 1), (2, 0), (2, 2)):
            self.assertIs(is_made(field, reach, (3, (stock,))), False)

    def test_by_chance(self):
        chance = random.Random(361)
        met = {}
        for _ in range(150):
            target, reach, stock = judged_from(chance)
            words = {cell: word(at(target, cell), at(reach, cell), at(stock, cell)) for cell in cells_of(target)}
            rows = tuple(tuple(words[i, j] for i in range(len(row))) for j, row in enumerate(target[1]))
            self.assertEqual(words_at(target, reach, stock), rows)
            wanted = {}
            for one in ORDER:
                some = [cell for cell in words if words[cell] == one]
                met[one] = met.get(one, 0) + len(some)
                if some:
                    wanted[one] = (len(some), sum(abs(at(stock, cell) - at(target, cell)) for cell in some))
            found = balance(target, reach, stock)
            self.assertEqual(list(found.items()), list(wanted.items()))
            self.assertIs(is_made(target, reach, stock), set(words.values()) <= {"right", "left"})
        self.assertEqual(set(met), set(ORDER))
        self.assertGreater(min(met.values()), 20)

    def test_of_fit_ways(self):
        chance = random.Random(362)
        for _ in range(25):
            field, tools = field_from(chance, most=4), tools_from(chance)
            reach = reached(field, tools)
            for way in (plain_way(field, tools), made_way(field, tools)):
                stock = left_by(field, way)
                self.assertIs(is_made(field, reach, stock), True)
                self.assertEqual(stock, least_stock(field, tools))
                self.assertIsNone(spoils(field, way))

    def test_refused(self):
        good = {"target": TARGET, "reached": REACHED, "stock": STOCK}
        wrongs = [(name, WRONG_FIELDS) for name in good]
        for call in (words_at, balance, is_made):
            refuses_in_order(self, call, good, wrongs)
            for other in (
                (4, ((1,) * 6, (1,) * 6)),
                (6, REACHED[1]),
                (5, REACHED[1][:1]),
                (5, REACHED[1] + REACHED[1][:1]),
                (5, ((5,) * 5,) * 2),
                (5, ((5,) * 2,) * 6),
            ):
                refusal(self, OutOfPlace, call, TARGET, other, STOCK)
                refusal(self, OutOfPlace, call, TARGET, REACHED, other)
                refusal(self, OutOfPlace, call, other, REACHED, STOCK)
                refusal(self, OutOfPlace, call, TARGET, other, other)
            # What is reached lies nowhere below the target.
            for reach in (STOCK, (5, ((3, 3, 3, 3, 3, 1), (2, 2, 2, 1, 5, 0))), (5, ((0,) + (3,) * 5, (5,) * 6))):
                refusal(self, OutOfPlace, call, TARGET, reach, STOCK)
            call(TARGET, TARGET, STOCK)


class Spoils(unittest.TestCase):
    def test_told(self):
        field = (3, ((2, 2, 3), (1, 2, 3)))
        way = (("tool", 2, 6), ("down", 2), ("down", 1), ("down", 0))
        self.assertEqual(spoils(field, way[:2]), None)
        self.assertEqual(spoils(field, way[:3]), (2, (0, 0)))
        self.assertEqual(spoils(target=field, way=way), (2, (0, 0)))
        # The first cell by its I, then its J; a target of its own height is spoilt by nothing that leaves it.
        self.assertEqual(spoils(field, (("tool", 2, 6), ("go", 1, 0), ("down", 2))), (2, (2, 0)))
        self.assertEqual(spoils((3, ((1, 1), (1, 2))), (("tool", 2, 6), ("down", 1))), (1, (1, 1)))
        self.assertEqual(spoils((3, ((1, 2), (2, 1))), (("tool", 2, 6), ("down", 1))), (1, (0, 1)))
        self.assertIsNone(spoils(field, ()))
        self.assertIsNone(spoils((3, ((0, 0),)), (("tool", 2, 6), ("down", 1), ("down", 0))))

    def test_a_step_is_refused(self):
        field = (3, ((3, 3),))
        tool, down = ("tool", 1, 6), ("down", 2)
        # What was spoilt ahead of it is told; what would be behind it isn't done.
        self.assertEqual(spoils(field, (tool, down, tool)), (1, (0, 0)))
        self.assertIsNone(spoils(field, (tool, ("up",), down)))
        self.assertIsNone(spoils(field, (down, tool, down)))
        self.assertIsNone(spoils(field, (tool, ("down", 0), down)))
        self.assertEqual(spoils(field, (tool, ("down", 0), down), depth=3), (1, (0, 0)))
        with self.assertRaises(TypeError):
            spoils(field, (tool, down), 2)

    def test_by_chance(self):
        chance = random.Random(363)
        met = [0, 0]
        for _ in range(250):
            field, depth = field_from(chance, most=4), chance.randint(1, 4)
            way = way_from(chance, field, depth, chance.randint(0, 25), wrong=chance.choice((0, 0, 0.1)))
            wanted = None
            for number, (state, _, _) in enumerate(rows_by_words(field, way, depth)):
                below = [cell for cell in sorted(cells_of(field)) if at(state[4], cell) < at(field, cell)]
                if below:
                    wanted = (number, below[0])
                    break
            met[wanted is None] += 1
            self.assertEqual(spoils(field, way, depth=depth), wanted)
            left = left_by(field, way, depth=depth)
            if wanted is None and left is not None:
                self.assertTrue(all(at(left, cell) >= at(field, cell) for cell in cells_of(field)))
        self.assertGreater(min(met), 40)

    def test_refused_in_another_order(self):
        wrongs = [("target", WRONG_FIELDS), ("way", WRONG_WAYS), ("depth", WRONG_DEPTHS)]
        refuses_in_order(self, spoils, {"target": TARGET, "way": ()}, wrongs)


if __name__ == "__main__":
    unittest.main()
