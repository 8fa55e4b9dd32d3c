import random
import unittest

from panelworks.errors import BadOutline
from panelworks.meeting import relation, touching
from panelworks.outlines import is_fair

from tests.helpers import ODD_THINGS, loop_from, loop_on, pair, plain, refusal, rising, spots, whole

SQUARE = spots(0, 0, 2, 0, 2, 2, 0, 2)
ELL = spots(0, 0, 3, 0, 3, 1, 2, 1, 2, 2, 0, 2)


def spot(x, y):
    return (pair(x), pair(y))


def turned(loop):
    """The loop from each of its corners, either way round."""
    for start in range(len(loop)):
        yield loop[start:] + loop[:start]
        yield (loop[start:] + loop[:start])[::-1]


def ring_from(chance):
    """A loop of level and upright edges in turn, each of some length, that often touches itself."""
    many = chance.choice((2, 3, 4, 5, 6))
    xs, ys = [], []
    while len(xs) < many or xs[0] == xs[-1]:
        xs = [chance.randint(0, 5)]
        while len(xs) < many:
            xs.append(chance.choice([x for x in range(6) if x != xs[-1]]))
    while len(ys) < many or ys[0] == ys[-1]:
        ys = [chance.randint(0, 5)]
        while len(ys) < many:
            ys.append(chance.choice([y for y in range(6) if y != ys[-1]]))
    loop = []
    for k in range(many):
        loop.append((xs[k - 1], ys[k]))
        loop.append((xs[k], ys[k]))
    start = chance.randrange(2)
    return spots(*[number for one in loop[start:] + loop[:start] for number in one])


def touched(loop):
    """What touching tells of a loop with whole corners, by the spots of a grid of halves."""
    ends = list(zip(loop, loop[1:] + loop[:1]))
    edges = []
    for start, end in ends:
        (x, y), (x1, y1) = [(plain(one[0]), plain(one[1])) for one in (start, end)]
        steps = int(2 * (abs(x1 - x) + abs(y1 - y)))
        edges.append({(x + (x1 - x) * k / steps, y + (y1 - y) * k / steps) for k in range(steps + 1)})
    for k in range(len(edges)):
        for other in range(k + 2, len(edges)):
            if (k, other) != (0, len(edges) - 1) and edges[k] & edges[other]:
                x, y = min(edges[k] & edges[other])
                return (k, other, (pair(x), pair(y)))
    return None


class Touching(unittest.TestCase):
    def test_nowhere(self):
        for loop in (SQUARE, ELL, spots("1/2", "1/3", 2, "1/3", 2, 2, "1/2", 2)):
            for one in turned(loop):
                self.assertIsNone(touching(one))
        self.assertIsNone(touching(loop=SQUARE))

    def test_at_one_spot(self):
        told = (
            # Through another edge, at the end of one, at a corner of both.
            (spots(0, 0, 4, 0, 4, 2, 1, 2, 1, -1, 0, -1), (0, 3, spot(1, 0))),
            (spots(0, "1/3", 4, "1/3", 4, 2, "1/2", 2, "1/2", -1, 0, -1), (0, 3, spot("1/2", "1/3"))),
            (spots(0, 0, 2, 0, 2, 3, 4, 3, 4, 1, 2, 1, 2, 2, 0, 2), (1, 4, spot(2, 1))),
            (spots(0, 0, 2, 0, 2, 2, 4, 2, 4, 4, 2, 4, 2, 2, 0, 2), (1, 5, spot(2, 2))),
            # The last edge has a spot in common with the first one, its neighbour, too.
            (spots(0, 0, 2, 0, 2, -2, -1, -2, -1, -3, 0, -3), (2, 5, spot(0, -2))),
        )
        for loop, wanted in told:
            self.assertEqual(touching(loop), wanted)
            self.assertIs(is_fair(loop), False)

    def test_along_an_edge_the_least_spot(self):
        # The upright edges 1 and 5 lie over one another from 1 to 2.
        loop = spots(0, 0, 2, 0, 2, 2, 4, 2, 4, 4, 2, 4, 2, 1, 0, 1)
        self.assertEqual(touching(loop), (1, 5, spot(2, 1)))
        self.assertEqual(touching(loop[3:] + loop[:3]), (2, 6, spot(2, 1)))
        # From the other end, edge 0 ends at that spot.
        self.assertEqual(touching(loop[::-1]), (0, 5, spot(2, 1)))
        loop = spots(0, 0, 0, 2, 2, 2, 2, 4, 4, 4, 4, 2, 1, 2, 1, 0)
        self.assertEqual(touching(loop), (1, 5, spot(1, 2)))

    def test_the_first_two_of_more(self):
        # Edge 0 is met by 3 and by 5 at 4 and at 2; edge 1 by none.
        loop = spots(0, 0, 6, 0, 6, 1, 4, 1, 4, -1, 2, -1, 2, 1, 0, 1)
        self.assertEqual(touching(loop), (0, 3, spot(4, 0)))
        self.assertEqual(touching(loop[::-1])[:2], (1, 6))
        self.assertEqual(touching(loop[::-1]), (1, 6, spot(2, 0)))

    def test_by_an_own_look(self):
        chance = random.Random(101)
        met = set()
        for _ in range(400):
            loop = ring_from(chance)
            wanted = touched(loop)
            self.assertEqual(touching(loop), wanted)
            self.assertIs(is_fair(loop), wanted is None)
            met.add(wanted and wanted[:2])
        self.assertGreater(len(met), 12)
        self.assertIn(None, met)

    def test_fair_ones(self):
        chance = random.Random(102)
        for _ in range(60):
            self.assertIsNone(touching(loop_from(chance)[0]))

    def test_refused(self):
        for loop in ODD_THINGS + (list(SQUARE), SQUARE[:3], SQUARE + SQUARE[:1], SQUARE[:3] + ((0, 2),)):
            self.assertIsNone(refusal(self, BadOutline, touching, loop).number)
        long = tuple((whole(k // 2), whole((k + 1) // 2)) for k in range(14))
        self.assertIsNone(refusal(self, BadOutline, touching, long).number)
        for loop, number in (
            (spots(0, 0, 1, 1, 0, 1, 0, 0), 0),
            (spots(0, 0, 0, 0, 1, 0, 1, 1), 0),
            (spots(0, 0, 2, 0, 2, 2, 1, 3), 2),
            (spots(0, 0, 2, 0, 1, 0, 1, 1), 1),
            (spots(0, 0, 2, 0, 2, 2, 2, 2), 2),
            (spots(0, 0, 2, 0, 2, 2, 1, 2), 3),
            # What is no turn goes ahead of edges that touch.
            (spots(0, 0, 2, 0, 2, 2, 1, 2, 1, -1, 0, 3), 4),
        ):
            self.assertEqual(refusal(self, BadOutline, touching, loop).number, number)


class Relation(unittest.TestCase):
    def both(self, one, other, word):
        back = {"within": "around", "around": "within"}.get(word, word)
        for mine in turned(one):
            self.assertEqual(relation(mine, other), word)
            self.assertEqual(relation(other, mine), back)
        for others in turned(other):
            self.assertEqual(relation(one, others), word)

    def test_same(self):
        self.both(SQUARE, SQUARE, "same")
        self.both(ELL, ELL[::-1], "same")

    def test_apart(self):
        self.both(SQUARE, spots(3, 0, 4, 0, 4, 1, 3, 1), "apart")
        # A shared edge and a shared corner are nothing in common.
        self.both(SQUARE, spots(2, 0, 4, 0, 4, 2, 2, 2), "apart")
        self.both(SQUARE, spots(2, 1, 4, 1, 4, 5, 2, 5), "apart")
        self.both(SQUARE, spots(2, 2, 4, 2, 4, 4, 2, 4), "apart")
        self.both(SQUARE, spots(-1, -1, 0, -1, 0, 0, -1, 0), "apart")
        self.both(ELL, spots(2, 1, 3, 1, 3, 2, 2, 2), "apart")

    def test_within_and_around(self):
        self.both(spots(1, 1, 2, 1, 2, 2, 1, 2), spots(0, 0, 3, 0, 3, 3, 0, 3), "within")
        self.both(SQUARE, ELL, "within")
        self.both(SQUARE, spots(0, 0, 2, 0, 2, 3, 0, 3), "within")
        self.both(ELL, spots(0, 0, 3, 0, 3, 2, 0, 2), "within")
        self.both(spots(0, 0, 9, 0, 9, 9, 0, 9), SQUARE, "around")

    def test_across(self):
        self.both(SQUARE, spots(1, 1, 3, 1, 3, 3, 1, 3), "across")
        self.both(SQUARE, spots(-1, "1/2", 3, "1/2", 3, 1, -1, 1), "across")
        self.both(SQUARE, spots(0, 0, "1/2", 0, "1/2", 3, 0, 3), "across")
        self.both(ELL, spots(1, 1, 3, 1, 3, 2, 1, 2), "across")

    def test_by_cells(self):
        chance = random.Random(103)
        met = {}
        for _ in range(400):
            xs, ys = rising(chance, 4), rising(chance, 3)
            loop, cells = loop_on(chance, xs, ys)
            other, others = loop_on(chance, xs, ys)
            word = "across"
            if cells == others:
                word = "same"
            elif not cells & others:
                word = "apart"
            elif cells < others:
                word = "within"
            elif cells > others:
                word = "around"
            met[word] = met.get(word, 0) + 1
            self.assertEqual(relation(loop, other), word)
        self.assertEqual(sorted(met), ["across", "apart", "around", "same", "within"])
        self.assertGreater(min(met.values()), 5)

    def test_refused(self):
        self.assertEqual(relation(loop=SQUARE, other=ELL), "within")
        for thing in ODD_THINGS:
            self.assertIsNone(refusal(self, BadOutline, relation, thing, SQUARE).number)
            self.assertIsNone(refusal(self, BadOutline, relation, SQUARE, thing).number)
        first = spots(0, 0, 2, 0, 2, 2, 1, 3)
        second = spots(0, 0, 1, 0, 2, 0, 2, 2)
        touches = spots(0, 0, 2, 0, 2, 2, 4, 2, 4, 4, 2, 4, 2, 2, 0, 2)
        self.assertEqual(refusal(self, BadOutline, relation, first, second).number, 2)
        self.assertEqual(refusal(self, BadOutline, relation, second, first).number, 1)
        self.assertEqual(refusal(self, BadOutline, relation, SQUARE, touches).number, 1)
        self.assertEqual(refusal(self, BadOutline, relation, first, None).number, 2)
        self.assertIsNone(refusal(self, BadOutline, relation, None, first).number)


if __name__ == "__main__":
    unittest.main()
