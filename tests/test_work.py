import random
import unittest

from panelworks import work as file
from panelworks.bodies import pieces_of
from panelworks.errors import (
    BadBlock,
    BadFeature,
    Clash,
    MissError,
    NoFeature,
    NoPoint,
    NoSaying,
    Nothing,
    NoTool,
    OutOfPlace,
    TooGreat,
    Twice,
    WorksError,
)
from panelworks.machine import Machine
from panelworks.solving import linked_groups
from panelworks.ways import made_way
from panelworks.work import CHANGES, Work

from tests.drafting import Due, Sheet, edit_from, work_from
from tests.helpers import ODD_THINGS, refusal, whole
from tests.stepping import WRONG_DEPTHS
from tests.test_edits import NO_SINGLE

BLOCK = (4, 4, 2)
SQUARE = ("a", "b", "c", "d")
PLACES = (("a", 1, 1), ("b", 3, 1), ("c", 3, 3), ("d", 1, 3))


def parts(work):
    return work.block(), work.depth(), work.points(), work.sayings(), work.features(), work.tools()


def answers(work):
    return {
        "places": work.places(),
        "pieces": work.pieces(),
        "target": work.target(),
        "least": work.least(),
        "reach": work.reach(),
    }


def told(work):
    """All that a work tells but its log."""
    return (
        parts(work),
        answers(work),
        work.way(),
        work.thing(),
        work.time(),
        work.edits(),
        len(work),
        str(work),
        work.busy(),
    )


def square(block=BLOCK, depth=2):
    """A work with a square of four points that is drawn, and a tool."""
    work = Work(block, depth=depth)
    for name, x, y in PLACES:
        work.put(name, whole(x), whole(y))
    work.draw(SQUARE, 0)
    work.take(1, 2)
    return work


def held():
    """The same, with sayings that hold its sides level and upright."""
    work = square()
    for one, other, axis in (("a", "b", "y"), ("c", "d", "y"), ("a", "d", "x"), ("b", "c", "x")):
        work.say(("level", one, other, axis))
    return work


class AtFirst(unittest.TestCase):
    def test_told(self):
        work = Work(BLOCK)
        plate = (2, ((2,) * 4,) * 4)
        self.assertEqual(parts(work), (BLOCK, 2, (), (), (), ()))
        self.assertEqual(work.pieces(), pieces_of(BLOCK, (), ()))
        self.assertEqual((work.places(), work.target(), work.least(), work.reach()), ((), plate, plate, plate))
        self.assertEqual((work.way(), work.thing(), work.time()), ((), plate, 0))
        self.assertEqual((work.edits(), work.log(), work.busy(), len(work)), ([], [], False, 0))
        self.assertEqual(str(work), "work of 0 points")
        for call in (work.undo, work.redo, work.copied().redo):
            refusal(self, Nothing, call)
        self.assertEqual(parts(Work(block=(8, 1, 6), depth=6)), ((8, 1, 6), 6, (), (), (), ()))
        self.assertEqual((file.CHANGES, CHANGES[2]), (("places", "pieces", "target", "least", "reach"), "target"))

    def test_refused(self):
        for thing in ODD_THINGS + ([4, 4, 2], (4, 4), (4, 4, 2, 2)):
            self.assertIsNone(refusal(self, BadBlock, Work, thing).place)
            self.assertIsNone(refusal(self, BadBlock, Work, thing, depth=0).place)
        for block, place in (((0, 4, 2), 0), ((4, 9, 7), 1), ((4, 4, 7), 2), ((4, 4, True), 2), ((True, 4, 7), 0)):
            self.assertEqual(refusal(self, BadBlock, Work, block, depth=None).place, place)
        for depth, error, _ in WRONG_DEPTHS:
            refusal(self, error, Work, BLOCK, depth=depth)
        with self.assertRaises(TypeError):
            Work(BLOCK, 2)


class Edits(unittest.TestCase):
    def test_one_by_one(self):
        work = square()
        self.assertEqual(work.points(), tuple((name, whole(x), whole(y)) for name, x, y in PLACES))
        self.assertEqual((work.features(), work.tools()), (((SQUARE, 0),), ((1, 2),)))
        self.assertEqual(work.target(), (2, ((2, 2, 2, 2), (2, 0, 0, 2), (2, 0, 0, 2), (2, 2, 2, 2))))
        self.assertEqual(work.reach(), work.target())
        self.assertEqual(work.thing(), work.target())
        self.assertEqual(str(work), "work of 4 points")
        self.assertEqual(len(work), 6)
        work = held()
        self.assertEqual(work.say(("apart", "a", "b", "x", 1)), ("places", "pieces", "target", "reach"))
        wanted = (("a", (3, 2), (1, 1)), ("b", (5, 2), (1, 1)), ("c", (5, 2), (3, 1)), ("d", (3, 2), (3, 1)))
        self.assertEqual(work.places(), wanted)
        self.assertEqual(work.points(), square().points())

    def test_each_by_its_own_method(self):
        x, y = (1, 2), (7, 3)
        saying = ("at", "a", "x", 1)
        for make, args, named, edit in (
            (Work.put, ("e", x, y), {"name": "e", "x": x, "y": y}, ("place", "e", x, y)),
            (Work.put, ("a", x, y), {"name": "a", "x": x, "y": y}, ("place", "a", x, y)),
            (Work.settle, (), {}, ("settle",)),
            (Work.say, (saying,), {"saying": saying}, ("say", saying)),
            (Work.unsay, (0,), {"number": 0}, ("unsay", 0)),
            (Work.renumber, (4, 3), {"number": 4, "to": 3}, ("renumber", 4, 3)),
            (Work.draw, (SQUARE, 1), {"outline": SQUARE, "height": 1}, ("draw", SQUARE, 1)),
            (Work.erase, (0,), {"number": 0}, ("erase", 0)),
            (Work.lift, (0, 1), {"number": 0, "height": 1}, ("lift", 0, 1)),
            (Work.take, (2, 2), {"side": 2, "length": 2}, ("take", 2, 2)),
            (Work.lay, (1, 2), {"side": 1, "length": 2}, ("lay", 1, 2)),
            (Work.many, ((("settle",), ("lay", 1, 2)),), {"edits": (("settle",), ("lay", 1, 2))},
             ("many", (("settle",), ("lay", 1, 2)))),
        ):
            self.each_way(make, args, named, edit)

    def each_way(self, make, args, named, edit):
        found = []
        for call in ("do", "do by name", "places", "names"):
            work = held()
            work.say(("apart", "a", "b", "x", 2))
            if call == "do":
                changed = work.do(edit)
            elif call == "do by name":
                changed = work.do(edit=edit)
            elif call == "places":
                changed = make(work, *args)
            else:
                changed = make(work, **named)
            self.assertIs(type(changed), tuple)
            self.assertEqual(work.edits()[-1], edit)
            self.assertEqual(work.log()[-2:], [("begun", len(work)), ("done", changed)])
            found.append((told(work), changed))
        for other in found[1:]:
            self.assertEqual(other, found[0])

    def test_points_in_their_order(self):
        work = square()
        work.erase(0)
        work.put("b", (7, 2), (0, 1))
        work.put("aa", (0, 1), (0, 1))
        self.assertEqual([point[0] for point in work.points()], ["a", "b", "c", "d", "aa"])
        self.assertEqual(work.points()[1], ("b", (7, 2), (0, 1)))

    def test_the_kth_one(self):
        work = square()
        some = tuple(("at", name, "x", number) for name, number in (("a", 1), ("b", 3), ("c", 3), ("d", 1)))
        for saying in some:
            work.say(saying)
        work.unsay(1)
        self.assertEqual(work.sayings(), (some[0], some[2], some[3]))
        work.unsay(0)
        self.assertEqual(work.sayings(), some[2:])
        work.say(("level", "a", "b", "y"))
        self.assertEqual(work.sayings(), some[2:] + (("level", "a", "b", "y"),))
        for height in (1, 2, 0):
            work.draw(SQUARE, height)
        work.lift(1, 0)
        self.assertEqual([height for _, height in work.features()], [0, 0, 2, 0])
        work.erase(2)
        self.assertEqual([height for _, height in work.features()], [0, 0, 0])
        work.take(4, 1)
        work.take(2, 3)
        work.lay(4, 1)
        self.assertEqual(work.tools(), ((1, 2), (2, 3)))

    def test_renumber(self):
        work = held()
        work.say(("apart", "a", "b", "x", 2))
        work.say(("at", "d", "y", 3))
        self.assertEqual(work.renumber(4, 1), ("places", "pieces", "target", "reach"))
        self.assertEqual(work.renumber(5, 4), ("places", "pieces", "least"))
        self.assertEqual(work.sayings()[4:], (("apart", "a", "b", "x", 1), ("at", "d", "y", 4)))
        self.assertEqual(work.places()[2], ("c", (5, 2), (4, 1)))
        self.assertEqual(work.many((("renumber", 4, -1), ("renumber", 4, 1))), ())

    def test_settle(self):
        work = square()
        work.erase(0)
        work.say(("apart", "a", "b", "x", 3))
        work.say(("level", "a", "b", "y"))
        places = work.places()
        self.assertNotEqual(work.points(), places)
        self.assertEqual(work.settle(), ())
        self.assertEqual((work.points(), work.places()), (places, places))
        # Behind it an edit begins where the points stood.
        work.unsay(0)
        self.assertEqual(work.places(), places)
        work.undo()
        work.undo()
        self.assertEqual(work.places(), places)
        work.unsay(0)
        self.assertEqual(work.places()[0], ("a", (1, 1), (1, 1)))


class Changed(unittest.TestCase):
    def test_told(self):
        work = Work(BLOCK)
        self.assertEqual(work.put("a", (1, 1), (1, 1)), ("places",))
        self.assertEqual(work.put("a", (1, 1), (1, 1)), ())
        self.assertEqual(work.many(tuple(("place", name, whole(x), whole(y)) for name, x, y in PLACES)), ("places",))
        self.assertEqual(work.draw(SQUARE, 0), ("pieces", "target", "least"))
        self.assertEqual(work.take(1, 2), ("reach",))
        self.assertEqual(work.take(1, 1), ())
        self.assertEqual(work.lift(0, 1), ("pieces", "target", "least", "reach"))
        self.assertEqual(work.lift(0, 1), ())
        self.assertEqual(work.say(("level", "a", "b", "y")), ())
        self.assertEqual(work.settle(), ())
        self.assertEqual(len(work), 10)

    def test_least_without_target(self):
        work = square()
        work.lay(1, 2)
        changed = work.many((("place", "a", (1, 2), (1, 1)), ("place", "d", (1, 2), (3, 1))))
        self.assertEqual(changed, ("places", "pieces", "least"))
        work.take(1, 2)
        changed = work.many((("place", "b", (7, 2), (1, 1)), ("place", "c", (7, 2), (3, 1))))
        self.assertEqual(changed, ("places", "pieces", "least"))


class ByChance(unittest.TestCase):
    def check(self, work, sheet):
        self.assertEqual(parts(work), sheet.parts())
        self.assertEqual(answers(work), sheet.made())

    def test_edits(self):
        chance = random.Random(371)
        met = {}
        for _ in range(40):
            block = (chance.randint(1, 5), chance.randint(1, 5), chance.randint(1, 6))
            depth = chance.randint(1, 6)
            work, sheet, log, edits = Work(block, depth=depth), Sheet(block, depth), [], []
            for _ in range(25):
                edit = edit_from(chance, sheet)
                log.append(("begun", len(log) // 2 + 1))
                try:
                    behind = sheet.after(edit)
                except Due as due:
                    found = refusal(self, due.error, work.do, edit)
                    self.assertEqual(tuple(vars(found).values()), due.fields)
                    log.append(("refused", due.number))
                    met[due.error] = met.get(due.error, 0) + 1
                else:
                    ahead, made = sheet.made(), behind.made()
                    changed = tuple(word for word in CHANGES if ahead[word] != made[word])
                    self.assertEqual(work.do(edit), changed)
                    log.append(("done", changed))
                    edits.append(edit)
                    sheet = behind
                    met[edit[0]] = met.get(edit[0], 0) + 1
                self.check(work, sheet)
                self.assertEqual((work.log(), work.edits(), len(work)), (log, edits, len(edits)))
                self.assertIs(work.busy(), False)
            self.assertEqual(work.way(), made_way(work.target(), work.tools(), depth=depth))
            machine = Machine(work.target(), depth=depth)
            machine.run(work.way())
            self.assertEqual((work.thing(), work.time()), (machine.stock(), machine.time()))
            self.assertEqual(work.thing(), work.reach())
        self.assertEqual(len(met), 11 + 9)

    def test_made_anew(self):
        chance = random.Random(372)
        for _ in range(25):
            work, sheet = work_from(chance, 25)
            self.check(work, sheet)
            anew = Work(work.block(), depth=work.depth())
            rows = [("place",) + one for one in work.points()] + [("say", one) for one in work.sayings()]
            rows += [("draw",) + one for one in work.features()] + [("take",) + one for one in work.tools()]
            for edit in rows:
                anew.do(edit)
            self.assertTrue(anew == work)
            self.assertEqual(told(anew)[:5], told(work)[:5])
            # Sayings in another order change nothing of it.
            other = Work(work.block(), depth=work.depth())
            points = len(work.points())
            sayings = rows[points:points + len(work.sayings())]
            chance.shuffle(sayings)
            for edit in rows[:points] + sayings + rows[points + len(sayings):]:
                other.do(edit)
            self.assertEqual(told(other)[1:5], told(work)[1:5])

    def test_settle_changes_nothing_that_is_made(self):
        chance = random.Random(373)
        done = 0
        for _ in range(60):
            work, _ = work_from(chance, 20)
            ahead = told(work)
            try:
                self.assertEqual(work.settle(), ())
            except TooGreat:
                self.assertEqual(told(work), ahead)
                continue
            done += work.points() != ahead[0][2]
            self.assertEqual(work.points(), work.places())
            self.assertEqual(told(work)[1:5], ahead[1:5])
        self.assertGreater(done, 5)

    def test_what_an_edit_does_not_touch_stays(self):
        chance = random.Random(374)
        stayed = 0
        for _ in range(40):
            work, sheet = work_from(chance, 20)
            for _ in range(8):
                edit = edit_from(chance, sheet, False)
                try:
                    behind = sheet.after(edit)
                except Due:
                    continue
                touched = self.touched(edit, sheet)
                if touched is not None:
                    for one in (sheet, behind):
                        for group in linked_groups(one.points, one.sayings):
                            if touched & set(group):
                                touched = touched | set(group)
                    ahead = dict(self.coordinates(work))
                    work.do(edit)
                    for name, place in self.coordinates(work):
                        if name not in touched and name in ahead:
                            self.assertEqual(place, ahead[name])
                            stayed += 1
                    sheet = behind
        self.assertGreater(stayed, 300)

    def coordinates(self, work):
        return [((name, axis), one) for name, x, y in work.places() for axis, one in (("x", x), ("y", y))]

    def touched(self, edit, sheet):
        """The coordinates that an edit places, or that a saying has which comes, goes or gets another number."""
        if edit[0] == "place":
            return {(edit[1], "x"), (edit[1], "y")}
        if edit[0] == "say":
            saying = edit[1]
        elif edit[0] in ("unsay", "renumber"):
            saying = sheet.sayings[edit[1]]
        else:
            return None
        names = [one for one in saying[1:] if isinstance(one, str) and one not in ("x", "y")]
        return {(name, axis) for name in names for axis in "xy"}


class Refused(unittest.TestCase):
    def refuses(self, work, error, edit, *fields, within=-1):
        """The edit is refused so, and nothing but the log is another one behind it."""
        ahead, log = told(work), work.log()
        found = refusal(self, error, work.do, edit)
        self.assertEqual(tuple(vars(found).values()), fields, edit)
        self.assertEqual(told(work), ahead)
        self.assertEqual(work.log(), log + [("begun", len(log) // 2 + 1), ("refused", within)])

    def test_what_is_no_edit(self):
        work = square()
        for thing in ODD_THINGS + NO_SINGLE:
            self.refuses(work, OutOfPlace, thing)
        # Even where what it names isn't there, or is too much.
        saying = ("at", "z", "x", 1000)
        for thing in (("draw", ("z", "y", "x", "w"), 7), ("unsay", 100), ("lift", 99, 7), ("say", saying)):
            self.refuses(work, OutOfPlace, thing)
        self.refuses(work, OutOfPlace, ("many", (("unsay", 99), None)))
        for call in (work.do, work.many, work.say, work.unsay, work.erase):
            for thing in ODD_THINGS:
                refusal(self, OutOfPlace, call, thing)
        for thing in ODD_THINGS:
            if thing != "x":
                refusal(self, OutOfPlace, work.put, thing, (1, 1), (1, 1))
            refusal(self, OutOfPlace, work.put, "a", thing, (1, 1))
            refusal(self, OutOfPlace, work.put, "a", (1, 1), thing)
            refusal(self, OutOfPlace, work.renumber, thing, 0)
            refusal(self, OutOfPlace, work.renumber, 0, thing)
            refusal(self, OutOfPlace, work.draw, thing, 0)
            refusal(self, OutOfPlace, work.draw, SQUARE, thing)
            refusal(self, OutOfPlace, work.lift, thing, 0)
            refusal(self, OutOfPlace, work.lift, 0, thing)
            refusal(self, OutOfPlace, work.take, thing, 1)
            refusal(self, OutOfPlace, work.take, 1, thing)
            refusal(self, OutOfPlace, work.lay, thing, 1)
            refusal(self, OutOfPlace, work.lay, 1, thing)

    def test_settle(self):
        work = Work(BLOCK)
        work.put("a", (1, 99), (0, 1))
        work.put("b", (1, 98), (0, 1))
        work.say(("level", "a", "b", "x"))
        self.assertEqual(work.places()[0][1], (197, 19404))
        self.refuses(work, TooGreat, ("settle",))
        for top, number in ((9999, 3), (-9999, -3)):
            work = Work(BLOCK)
            work.put("a", (0, 1), (top, 1))
            work.put("b", (0, 1), (top, 1))
            work.say(("apart", "a", "b", "y", number))
            self.refuses(work, TooGreat, ("settle",))
            work.renumber(0, 0)
            self.assertEqual(work.settle(), ())
        # Just what a point may have.
        work = Work(BLOCK)
        work.put("a", (2, 99), (9998, 1))
        work.put("b", (8, 99), (9998, 1))
        work.say(("level", "a", "b", "x"))
        work.say(("apart", "a", "b", "y", 2))
        self.assertEqual(work.settle(), ())
        self.assertEqual(work.points(), (("a", (5, 99), (9997, 1)), ("b", (5, 99), (9999, 1))))

    def test_place(self):
        work = Work(BLOCK)
        for name in "abcdefghijkl":
            work.put(name, (0, 1), (0, 1))
        self.refuses(work, TooGreat, ("place", "m", (0, 1), (0, 1)))
        self.assertEqual(work.put("l", (1, 1), (0, 1)), ("places",))

    def test_say(self):
        work = square()
        for saying, name in (
            (("at", "z", "x", 1), "z"),
            (("level", "a", "y", "x"), "y"),
            (("level", "z", "y", "x"), "z"),
            (("middle", "a", "y", "z", "x"), "y"),
            (("as", "a", "b", "x", "c", "x", "y", 1, 1), "x"),
            (("as", "a", "w", "x", "v", "u", "y", 1, 1), "w"),
        ):
            self.refuses(work, NoPoint, ("say", saying), name)
        for _ in range(20):
            work.say(("level", "a", "b", "y"))
        self.refuses(work, TooGreat, ("say", ("level", "a", "b", "y")))
        # A name that isn't there ahead of one too many, both ahead of a clash.
        self.refuses(work, NoPoint, ("say", ("level", "a", "z", "y")), "z")
        self.refuses(work, TooGreat, ("say", ("apart", "a", "b", "y", 1)))

    def test_unsay_and_renumber(self):
        work = square()
        for number in (0, 1, 99):
            self.refuses(work, NoSaying, ("unsay", number), number)
            self.refuses(work, NoSaying, ("renumber", number, 0), number)
        some = (("level", "a", "b", "y"), ("middle", "a", "a", "a", "x"), ("as", "a", "b", "y", "a", "b", "y", 1, 1))
        for saying in some:
            work.say(saying)
        for number in range(3):
            self.refuses(work, OutOfPlace, ("renumber", number, 0))
        self.refuses(work, NoSaying, ("renumber", 3, 0), 3)
        self.refuses(work, NoSaying, ("unsay", 3), 3)

    def test_draw(self):
        work = square((4, 4, 1))
        self.refuses(work, NoPoint, ("draw", ("a", "z", "y", "d"), 0), "z")
        self.refuses(work, OutOfPlace, ("draw", SQUARE, 2))
        self.refuses(work, BadFeature, ("draw", ("a", "c", "b", "d"), 0), 1)
        for _ in range(4):
            work.draw(SQUARE, 1)
        self.refuses(work, TooGreat, ("draw", SQUARE, 0))
        # Two and three wrong at once.
        self.refuses(work, NoPoint, ("draw", ("z", "a", "b", "c"), 6), "z")
        self.refuses(work, OutOfPlace, ("draw", ("a", "c", "b", "d"), 2))
        self.refuses(work, TooGreat, ("draw", ("a", "c", "b", "d"), 1))

    def test_erase_and_lift(self):
        work = square()
        for number in (1, 2, 99):
            self.refuses(work, NoFeature, ("erase", number), number)
            self.refuses(work, NoFeature, ("lift", number, 0), number)
            self.refuses(work, NoFeature, ("lift", number, 6), number)
        self.refuses(work, OutOfPlace, ("lift", 0, 3))
        self.assertEqual(work.lift(0, 2), ("pieces", "target", "least", "reach"))

    def test_take_and_lay(self):
        work = square()
        self.refuses(work, Twice, ("take", 1, 2))
        self.refuses(work, NoTool, ("lay", 2, 1), (2, 1))
        self.refuses(work, NoTool, ("lay", 1, 1), (1, 1))
        for length in (3, 4, 5):
            work.take(1, length)
        self.refuses(work, TooGreat, ("take", 1, 6))
        self.refuses(work, Twice, ("take", 1, 5))
        work.lay(1, 2)
        self.refuses(work, NoTool, ("lay", 1, 2), (1, 2))
        self.assertEqual(work.take(1, 6), ())

    def test_behind_it(self):
        work = square()
        work.say(("apart", "a", "b", "x", 2))
        self.refuses(work, Clash, ("say", ("apart", "b", "a", "x", 1)), 1)
        work.say(("apart", "a", "b", "x", 2))
        # The first of the sayings with which those ahead clash, whichever was edited.
        self.refuses(work, Clash, ("renumber", 0, 3), 1)
        # An outline that is none any more, by a point, by a saying, by one that goes.
        self.refuses(work, BadFeature, ("place", "a", (2, 1), (1, 1)), 0)
        self.refuses(work, BadFeature, ("say", ("at", "a", "y", 0)), 0)
        work.draw(SQUARE[::-1], 1)
        self.refuses(work, BadFeature, ("draw", ("a", "b", "d", "c"), 1), 2)
        # The first of two that are none any more; a clash ahead of both.
        self.refuses(work, BadFeature, ("place", "d", (1, 1), (2, 1)), 0)
        self.refuses(work, Clash, ("many", (("place", "d", (1, 1), (2, 1)), ("renumber", 0, 3))), 1)
        # Of an odd number of names.
        work.put("e", (2, 1), (2, 1))
        self.refuses(work, BadFeature, ("draw", SQUARE + ("e",), 1), 2)

    def test_an_outline_that_a_saying_held(self):
        work = Work(BLOCK)
        for name, x, y in (("a", 1, 1), ("b", 3, 1), ("c", 3, 3), ("d", 2, 3)):
            work.put(name, whole(x), whole(y))
        self.refuses(work, BadFeature, ("draw", SQUARE, 1), 0)
        work.say(("level", "a", "d", "x"))
        work.draw(SQUARE, 1)
        self.refuses(work, BadFeature, ("unsay", 0), 0)
        work.settle()
        self.assertEqual(work.unsay(0), ())

    def test_many(self):
        work = square()
        place = ("place", "e", (0, 1), (0, 1))
        self.refuses(work, NoPoint, ("many", (("say", ("level", "a", "e", "x")), place)), "e", within=0)
        self.refuses(work, NoSaying, ("many", (place, ("unsay", 0))), 0, within=1)
        self.refuses(work, Twice, ("many", (("take", 2, 2), place, ("take", 2, 2))), within=2)
        self.refuses(work, NoTool, ("many", (("lay", 1, 2), ("lay", 1, 2))), (1, 2), within=1)
        self.refuses(work, TooGreat, ("many", tuple(("take", 2, length) for length in range(1, 6))), within=3)
        # By what stands ahead of each, so these stand together.
        edits = (place, ("say", ("level", "a", "e", "x")), ("unsay", 0), ("lay", 1, 2), ("take", 1, 2))
        self.assertEqual(work.many(edits), ("places",))
        # What stands behind all of them alone is looked at, and is refused as the whole.
        turned = (("draw", ("a", "c", "b", "d"), 1), ("erase", 1))
        self.assertEqual(work.many(turned), ())
        self.refuses(work, BadFeature, ("many", turned[:1]), 1)
        clash = (("say", ("at", "a", "x", 1)), ("say", ("at", "a", "x", 2)))
        self.assertEqual(work.many(clash + (("unsay", 0), ("unsay", 0))), ())
        self.refuses(work, Clash, ("many", clash + (("take", 2, 2),)), 1)
        # An edit that is refused by itself is told ahead of a clash.
        self.refuses(work, NoTool, ("many", clash + (("lay", 2, 2),)), (2, 2), within=2)
        self.refuses(work, NoFeature, ("many", turned[:1] + clash + (("erase", 2),)), 2, within=3)
        # But settle is refused by a clash where it stands, not by an outline.
        self.refuses(work, Clash, ("many", clash + (("settle",), ("unsay", 0))), 1, within=2)
        self.assertEqual(work.many(turned[:1] + (("settle",),) + turned[1:]), ())
        self.refuses(work, OutOfPlace, ("many", (place, ("many", (place,)))))
        self.refuses(work, OutOfPlace, ("many", (("unsay", 7), ("unsay", 100))))

    def test_many_settles_within(self):
        work = square()
        work.erase(0)
        edits = (
            ("say", ("apart", "a", "b", "x", 1)),
            ("settle",),
            ("unsay", 0),
            ("place", "c", (7, 2), (3, 1)),
        )
        self.assertEqual(work.many(edits), ("places",))
        self.assertEqual(work.points()[:3], (("a", (3, 2), (1, 1)), ("b", (5, 2), (1, 1)), ("c", (7, 2), (3, 1))))

    def test_three_wrong_at_once(self):
        work = square((4, 4, 1))
        self.refuses(work, OutOfPlace, ("lift", 100, 6))
        self.refuses(work, NoFeature, ("lift", 9, 6), 9)
        edits = (("draw", ("z",) + SQUARE, 3), ("unsay", 3), ("lay", 4, 4))
        self.refuses(work, NoPoint, ("many", edits), "z", within=0)
        self.refuses(work, NoSaying, ("many", (("settle",),) + edits[1:]), 3, within=1)
        self.refuses(work, NoTool, ("many", (("settle",), ("settle",)) + edits[2:]), (4, 4), within=2)


class Undo(unittest.TestCase):
    def test_back_and_again(self):
        chance = random.Random(375)
        for _ in range(15):
            work, _ = work_from(chance, 0)
            states = [told(work)]
            sheet = Sheet(work.block(), work.depth())
            for _ in range(15):
                edit = edit_from(chance, sheet)
                try:
                    sheet = sheet.after(edit)
                except Due as due:
                    refusal(self, due.error, work.do, edit)
                    continue
                work.do(edit)
                states.append(told(work))
            edits, log = work.edits(), work.log()
            for number in range(len(edits) - 1, -1, -1):
                self.assertEqual(work.undo(), edits[number])
                self.assertEqual(told(work), states[number])
            refusal(self, Nothing, work.undo)
            self.assertEqual(told(work), states[0])
            for number, edit in enumerate(edits):
                self.assertEqual(work.redo(), edit)
                self.assertEqual(told(work), states[number + 1])
            refusal(self, Nothing, work.redo)
            self.assertEqual(told(work), states[-1])
            self.assertEqual(work.log(), log)

    def test_behind_a_new_edit(self):
        work = square()
        work.undo()
        work.undo()
        # What is refused lets them be, and so does asking.
        refusal(self, NoTool, work.lay, 1, 1)
        refusal(self, OutOfPlace, work.do, None)
        told(work)
        self.assertEqual(work.redo(), ("draw", SQUARE, 0))
        work.put("e", (0, 1), (0, 1))
        refusal(self, Nothing, work.redo)
        self.assertEqual(work.edits()[-2:], [("draw", SQUARE, 0), ("place", "e", (0, 1), (0, 1))])
        # Also behind one by which nothing changed.
        work.undo()
        work.settle()
        refusal(self, Nothing, work.redo)
        self.assertEqual(work.undo(), ("settle",))
        self.assertEqual(work.undo(), ("draw", SQUARE, 0))
        self.assertEqual([work.redo(), work.redo()], [("draw", SQUARE, 0), ("settle",)])

    def test_a_many_is_one(self):
        work = square()
        ahead = told(work)
        edit = ("many", (("lay", 1, 2), ("erase", 0), ("place", "e", (0, 1), (0, 1))))
        work.do(edit)
        behind = told(work)
        self.assertEqual((len(work), work.undo()), (7, edit))
        self.assertEqual(told(work), ahead)
        self.assertEqual(work.redo(), edit)
        self.assertEqual(told(work), behind)

    def test_the_log(self):
        work = Work(BLOCK)
        work.put("a", (1, 1), (1, 1))
        refusal(self, NoSaying, work.unsay, 0)
        work.undo()
        refusal(self, Nothing, work.undo)
        work.redo()
        refusal(self, Nothing, work.redo)
        refusal(self, OutOfPlace, work.do, None)
        work.settle()
        wanted = [("begun", 1), ("done", ("places",)), ("begun", 2), ("refused", -1), ("begun", 3), ("refused", -1)]
        self.assertEqual(work.log(), wanted + [("begun", 4), ("done", ())])


class Own(unittest.TestCase):
    def test_busy(self):
        work = square()
        seen = []

        class Spy(tuple):
            def __len__(self):
                seen.append(work.busy())
                return tuple.__len__(self)

        self.assertIs(work.busy(), False)
        work.do(Spy(("settle",)))
        self.assertIn(True, seen)
        self.assertIs(work.busy(), False)
        for edit in (None, ("unsay", 0), ("draw", ("a", "c", "b", "d"), 0), ("many", (("unsay", 0),))):
            with self.assertRaises((WorksError, MissError)):
                work.do(edit)
            self.assertIs(work.busy(), False)

    def test_what_is_told_is_the_askers(self):
        work = square()
        edits, log = work.edits(), work.log()
        work.edits().clear()
        work.log().append(None)
        self.assertEqual((work.edits(), work.log()), (edits, log))
        work.settle()
        self.assertEqual((len(edits), len(log)), (6, 12))

    def test_copied(self):
        work = square()
        work.undo()
        refusal(self, NoTool, work.lay, 4, 4)
        other = work.copied()
        self.assertTrue(other == work)
        self.assertEqual((told(other), other.log()), (told(work), work.log()))
        ahead, log = told(work), work.log()
        self.assertEqual(other.redo(), ("take", 1, 2))
        other.erase(0)
        self.assertEqual(other.log()[-2:], [("begun", 8), ("done", ("pieces", "target", "least", "reach"))])
        self.assertEqual((told(work), work.log()), (ahead, log))
        self.assertFalse(other == work)
        behind = told(other)
        self.assertEqual(work.redo(), ("take", 1, 2))
        while len(work):
            work.undo()
        self.assertEqual(told(other), behind)
        while len(other):
            other.undo()
        self.assertTrue(other == work)

    def test_equal(self):
        work = square()
        other = Work(BLOCK)
        self.assertFalse(work == other)
        # Whatever the row of edits was.
        for name, x, y in PLACES:
            other.put(name, whole(x + 5), whole(y))
        other.many(tuple(("place", name, whole(x), whole(y)) for name, x, y in PLACES))
        other.take(1, 2)
        self.assertTrue(work != other)
        other.draw(SQUARE, 0)
        self.assertTrue(work == other)
        self.assertFalse(work != other)
        for thing in ODD_THINGS + (work.points(), "work of 4 points"):
            self.assertFalse(work == thing)

    def test_each_part_is_compared(self):
        for other in (square((4, 4, 3)), square((5, 4, 2)), square(depth=1)):
            self.assertFalse(square() == other)
        for edit in (
            ("place", "e", (0, 1), (0, 1)),
            ("say", ("level", "a", "b", "y")),
            ("draw", SQUARE, 2),
            ("take", 4, 6),
            ("lay", 1, 2),
            ("erase", 0),
        ):
            work = square()
            work.do(edit)
            self.assertFalse(square() == work)
        # The same things in another order.
        one, other = square(), square()
        one.many((("take", 2, 2), ("take", 3, 3)))
        other.many((("take", 3, 3), ("take", 2, 2)))
        self.assertFalse(one == other)
        # Points elsewhere that come to stand at the same places.
        one, other = square(), square()
        for work in (one, other):
            work.erase(0)
            work.say(("level", "a", "b", "x"))
        other.settle()
        self.assertEqual(one.places(), other.places())
        self.assertFalse(one == other)


if __name__ == "__main__":
    unittest.main()
