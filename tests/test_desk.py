import random
import unittest

from panelworks.bodies import height_at, volume
from panelworks.bounds import low
from panelworks.desk import Desk
from panelworks.drawingtext import work_text
from panelworks.edittext import edit_text, saying_text
from panelworks.errors import Clash, NoPoint, OutOfPlace, WorksError
from panelworks.fields import height_on
from panelworks.following import fixed_at, free_ways, word_beside
from panelworks.judged import words_at
from panelworks.reach import left
from panelworks.waytext import way_text
from panelworks.work import Work

from tests.drafting import Due, Sheet, edit_from
from tests.helpers import ODD_THINGS, pair, saying_from

SQUARE = "place a 1 1 ; place b 3 1 ; place c 3 3 ; place d 1 3"
EVEN = "right right right right"
QUESTIONS = "text places target least reach thing way time low free many volume left words".split()
WORDS = {
    "Clash": "clash",
    "BadFeature": "feature",
    "OutOfPlace": "place",
    "Twice": "twice",
    "TooGreat": "great",
    "NoPoint": "point",
    "NoSaying": "saying",
    "NoFeature": "edge",
    "NoTool": "tool",
}


def fraction(one):
    return str(one[0]) if one[1] == 1 else f"{one[0]}/{one[1]}"


def grid(rows):
    return " / ".join(" ".join(str(one) for one in row) for row in rows)


def answer(work, question):
    """The answer to a question of one word, put together anew."""
    target, tools = work.target(), work.tools()
    rows = {
        "text": lambda: work_text(work).split("\n"),
        "places": lambda: [f"{name} {fraction(x)} {fraction(y)}" for name, x, y in work.places()],
        "way": lambda: way_text(work.way()).split("\n") if work.way() else [],
        "left": lambda: [f"{i} {j} {aim} {height}" for (i, j), aim, height in left(target, tools)],
    }
    others = {
        "target": lambda: grid(target[1]),
        "least": lambda: grid(work.least()[1]),
        "reach": lambda: grid(work.reach()[1]),
        "thing": lambda: grid(work.thing()[1]),
        "time": work.time,
        "low": lambda: low(target, tools, depth=work.depth()),
        "free": lambda: free_ways(work.points(), work.sayings()),
        "many": lambda: len(work),
        "volume": lambda: fraction(volume(work.block(), work.features(), work.places())),
        "words": lambda: grid(words_at(target, work.reach(), work.thing())),
    }
    if question in rows:
        between = ", " if question in ("places", "left") else " ; "
        return between.join(rows[question]()) or "none"
    return str(others[question]())


def desk_with(*lines):
    """A desk that has done these lines."""
    desk = Desk()
    for line in lines:
        assert desk.say(line).split(" ")[0] == "done", (line, desk.say(line))
    return desk


class Told(unittest.TestCase):
    def says(self, desk, *lines):
        for line, wanted in lines:
            self.assertEqual(desk.say(line), wanted, line)

    def test_at_first(self):
        desk = Desk()
        plate = " / ".join(["2 2 2 2"] * 4)
        self.says(
            desk,
            ("text", "work 4 4 2 2"),
            ("places", "none"),
            ("target", plate),
            ("least", plate),
            ("reach", plate),
            ("thing", plate),
            ("way", "none"),
            ("time", "0"),
            ("low", "0"),
            ("free", "0"),
            ("many", "0"),
            ("volume", "32"),
            ("left", "none"),
            ("words", " / ".join([EVEN] * 4)),
            ("height 0 4", "2 2"),
            ("undo", "refused nothing"),
            ("redo", "refused nothing"),
        )
        self.assertTrue(desk.work() == Work((4, 4, 2), depth=2))
        self.assertEqual(desk.say(line="many"), "0")

    def test_a_drawing(self):
        desk = Desk()
        self.says(
            desk,
            ("place a 1 1", "done places"),
            ("place b 3 1 ; place c 3 3 ; place d 1 3", "done places"),
            ("draw 0 a b c d", "done pieces target least"),
            ("take 1 1", "done reach"),
            ("left", "1 1 0 1, 1 2 0 1, 2 1 0 1, 2 2 0 1"),
            ("words", " / ".join([EVEN, "right left left right", "right left left right", EVEN])),
            ("reach", "2 2 2 2 / 2 1 1 2 / 2 1 1 2 / 2 2 2 2"),
            ("take 1 6", "done reach"),
            ("left", "none"),
            ("thing", "2 2 2 2 / 2 0 0 2 / 2 0 0 2 / 2 2 2 2"),
            ("time", "35"),
            ("low", "32"),
            ("say level a b y", "done"),
            ("say apart a b x 2", "done"),
            ("free", "6"),
            ("place e 1/2 -7/3", "done places"),
            ("places", "a 1 1, b 3 1, c 3 3, d 1 3, e 1/2 -7/3"),
            ("volume", "24"),
            ("many", "8"),
            ("text", "work 4 4 2 2 ; place a 1 1 ; place b 3 1 ; place c 3 3 ; place d 1 3 ; place e 1/2 -7/3"
             " ; say level a b y ; say apart a b x 2 ; draw 0 a b c d ; take 1 1 ; take 1 6"),
            ("beside level a b y", "follows"),
            ("beside level b a y", "follows"),
            ("beside apart a b x 3", "clashes"),
            ("beside at a x 1", "free"),
            ("fixed a x", "none"),
            ("say at a x 1", "done"),
            ("fixed a x", "1"),
            ("fixed b x", "3"),
            ("fixed b y", "none"),
            ("beside at a x 1", "follows"),
            ("beside as a b x a b x 7 7", "follows"),
            ("height 2 2", "0 0"),
            ("height 1 2", "2 2"),
            ("height 3/2 3/2", "0 0"),
            ("height 0 0", "2 2"),
            ("lift 0 1", "done pieces target least reach"),
            ("height 2 2", "1 1"),
            ("undo", "done"),
            ("height 2 2", "0 0"),
            ("redo", "done"),
            ("height 2 2", "1 1"),
            ("redo", "refused nothing"),
            ("unsay 2", "done"),
            ("renumber 1 2", "done"),
            ("settle", "done"),
            ("lay 1 6", "done"),
            ("lay 1 1", "done reach"),
            ("erase 0", "done pieces target least"),
            ("place e 1/2 1/2", "done places"),
            ("settle ; take 1 1 ; lay 1 1", "done"),
        )

    def test_a_body_and_a_thing_apart(self):
        wide = "place a 1/2 1/2 ; place b 7/2 1/2 ; place c 7/2 3 ; place d 1/2 3"
        desk = desk_with(wide, "draw 0 a b c d", "take 1 6")
        # Only the cells in the middle are low as a whole.
        self.says(
            desk,
            ("target", "2 2 2 2 / 2 0 0 2 / 2 0 0 2 / 2 2 2 2"),
            ("least", "0 0 0 0 / 0 0 0 0 / 0 0 0 0 / 2 2 2 2"),
            ("height 3/4 2", "0 2"),
            ("height 3/2 3/2", "0 0"),
            ("height 1/2 1", "2 2"),
            ("volume", "17"),
        )

    def test_edits_of_all_sorts(self):
        chance = random.Random(401)
        for _ in range(25):
            desk, sheet, edits = Desk(), Sheet((4, 4, 2)), []
            for _ in range(20):
                edit = edit_from(chance, sheet)
                try:
                    behind = sheet.after(edit)
                except Due as due:
                    fields = [str(one) for one in due.fields if not isinstance(one, tuple)]
                    wanted = " ".join(["refused", WORDS[due.error.__name__]] + fields)
                else:
                    ahead, made = sheet.made(), behind.made()
                    wanted = " ".join(["done"] + [word for word in ahead if ahead[word] != made[word]])
                    sheet = behind
                    # The words of a "many" of one are those of this one.
                    edits.append(edit[1][0] if edit[0] == "many" and len(edit[1]) == 1 else edit)
                self.assertEqual(desk.say(edit_text(edit)), wanted)
                self.assertEqual(desk.work().edits(), edits)
            work = desk.work()
            self.assertEqual((work.points(), work.sayings()), (sheet.points, sheet.sayings))
            self.assertEqual((work.features(), work.tools()), (sheet.features, sheet.tools))
            for question in QUESTIONS:
                self.assertEqual(desk.say(question), answer(work, question), question)
            self.more_questions(chance, desk, work)

    def more_questions(self, chance, desk, work):
        points, sayings = work.points(), work.sayings()
        for _ in range(5):
            saying = saying_from(chance, [point[0] for point in points] + ["zz"])
            try:
                wanted = word_beside(points, sayings, saying)
            except OutOfPlace:
                wanted = "refused place"
            self.assertEqual(desk.say("beside " + saying_text(saying)), wanted)
            name, axis = chance.choice([point[0] for point in points] + ["zz"]), chance.choice("xy")
            try:
                wanted = fixed_at(points, sayings, name, axis)
                wanted = "none" if wanted is None else fraction(wanted)
            except OutOfPlace:
                wanted = "refused place"
            self.assertEqual(desk.say(f"fixed {name} {axis}"), wanted)
            x, y = (pair(chance.randint(0, 8)) for _ in range(2))
            x, y = (x[0], 2) if x[0] % 2 else pair(x[0] // 2), pair(y[0])
            try:
                body = height_at(work.block(), work.features(), work.places(), x, y)
                wanted = f"{body} {height_on(work.thing(), x, y)}"
            except OutOfPlace:
                wanted = "refused place"
            self.assertEqual(desk.say(f"height {fraction(x)} {fraction(y)}"), wanted)

    def test_a_copy_of_its_work(self):
        desk = desk_with(SQUARE)
        work = desk.work()
        work.put("e", (0, 1), (0, 1))
        work.undo()
        work.undo()
        self.assertEqual(desk.say("places"), "a 1 1, b 3 1, c 3 3, d 1 3")
        self.assertEqual(len(desk.work()), 1)
        other = desk.work()
        desk.say("place a 0 0")
        self.assertEqual(other.points()[0], ("a", (1, 1), (1, 1)))
        self.assertEqual(other.log(), [("begun", 1), ("done", ("places",))])


class Works(unittest.TestCase):
    def test_in_the_place_of_the_one_there(self):
        desk = desk_with(SQUARE, "take 1 1")
        text = desk.say("text")
        self.assertEqual(desk.say("work 1 2 3 4"), "done")
        self.assertEqual((desk.say("text"), desk.say("undo")), ("work 1 2 3 4", "refused nothing"))
        self.assertTrue(desk.work() == Work((1, 2, 3), depth=4))
        self.assertEqual(desk.say(text), "done")
        self.assertEqual((desk.say("text"), desk.say("many")), (text, "5"))
        self.assertEqual((desk.say("undo"), desk.say("reach")), ("done", " / ".join(["2 2 2 2"] * 4)))

    def test_refused(self):
        desk = desk_with(SQUARE)
        ahead = desk.say("text")
        for line, wanted in (
            ("work 4", "refused row 1 3"),
            ("work x", "refused row 1 2"),
            ("work 4 4 2 2 2", "refused row 1 6"),
            ("work 4 4 2 2 ; settle", "refused row 2 1"),
            ("work 4 4 2 2 ; place a 1", "refused row 2 4"),
            ("work 4 4 2 2 ; place a 1 1 ; take 1 1 ; place b 1 1", "refused row 4 1"),
            ("work 4 4 2 2 ;", "refused row 1 6"),
            ("work ; place a 1 1", "refused row 1 2"),
            ("work 4 4 2 2 ; ; take 1 1", "refused row 2 1"),
            ("work work 4 4 2 2", "refused row 1 2"),
            ("work 9 4 2 2", "refused block"),
            ("work 4 4 2 0", "refused place"),
            ("work 4 4 2 2 ; take 1 9", "refused place"),
            ("work 4 4 2 2 ; take 1 1 ; take 1 1", "refused twice"),
            ("work 4 4 2 2 ; say at z x 1", "refused point z"),
            ("work 4 4 2 2 ; place z 0 0 ; say at z x 1 ; say at z x 2", "refused clash 1"),
            ("work 4 4 2 2 ; " + SQUARE + " ; draw 1 a c b d", "refused feature 0"),
            ("work 4 4 2 2 ; " + SQUARE + " ; draw 3 a b c d", "refused place"),
            ("work 4 4 2 2" + "".join(f" ; take 1 {length}" for length in range(1, 6)), "refused great"),
            ("work", "no line"),
            ("works 4 4 2 2", "no line"),
            ("work  4 4 2 2", "no line"),
            ("work 4 4 2 2 ", "no line"),
            ("work 4 4 2 2\ntake 1 1", "no line"),
            ("take 1 1 ; work 4 4 2 2", "no line"),
        ):
            self.assertEqual(desk.say(line), wanted, line)
            self.assertEqual((desk.say("text"), desk.say("many")), (ahead, "1"))


class Refused(unittest.TestCase):
    def test_each_word(self):
        desk = desk_with(SQUARE, "draw 0 a b c d", "take 1 1", "say level a b y", "say apart a b x 2")
        ahead = [desk.say(question) for question in QUESTIONS]
        for line, wanted in (
            ("say apart a b x 3", "refused clash 2"),
            ("renumber 1 3", "refused feature 0"),
            ("place a 5 5 ; renumber 0 1", "refused place"),
            ("draw 1 a c b d", "refused feature 1"),
            ("draw 1 a b c d e", "refused point e"),
            ("say level a zz x", "refused point zz"),
            ("unsay 2", "refused saying 2"),
            ("unsay 99", "refused saying 99"),
            ("renumber 7 1", "refused saying 7"),
            ("erase 1", "refused edge 1"),
            ("lift 12 0", "refused edge 12"),
            ("lay 2 2", "refused tool"),
            ("take 1 1", "refused twice"),
            ("take 1 2 ; take 1 3 ; take 1 4 ; take 1 5", "refused great"),
            ("unsay 100", "refused place"),
            ("renumber 0 1", "refused place"),
            ("renumber 1 1000", "refused place"),
            ("lift 0 3", "refused place"),
            ("take 0 1", "refused place"),
            ("place a 1/100 0", "refused place"),
            ("say at a x 1000", "refused place"),
            ("draw 1 a a b c", "refused place"),
            ("beside at zz x 1", "refused place"),
            ("beside at a x 1000", "refused place"),
            ("fixed zz x", "refused place"),
            ("height 5 0", "refused place"),
            ("height 0 -1/2", "refused place"),
            (" ; ".join(["settle"] * 13), "refused place"),
            (" ; ".join(["unsay 9"] * 13), "refused place"),
            ("redo", "refused nothing"),
        ):
            self.assertEqual(desk.say(line), wanted, line)
            self.assertEqual([desk.say(question) for question in QUESTIONS], ahead)
        self.assertEqual(desk.say(" ; ".join(["settle"] * 12)), "done")

    def test_great_and_sketch(self):
        desk = desk_with("place a 9999 0", "place b 9999 0", "say apart a b x 999")
        self.assertEqual(desk.say("settle"), "refused great")
        for name in "cdefghijkl":
            self.assertEqual(desk.say(f"place {name} 0 0"), "done places")
        self.assertEqual(desk.say("place m 0 0"), "refused great")

    def test_no_line(self):
        desk = desk_with(SQUARE)
        ahead = desk.say("text")
        lines = [
            "",
            " ",
            "many ",
            " many",
            "height 0  0",
            "many\n",
            "\nmany",
            "settle\nsettle",
            "hello",
            "Many",
            "undo 1",
            "undo redo",
            "redo ; redo",
            "settle ; undo",
            "settle ; many",
            "many ; settle",
            "settle ;",
            "; settle",
            "settle ;settle",
            "settle ; ; settle",
            "settle,settle",
            ";",
            "place",
            "place a 1",
            "place a 1 1 1",
            "place A 1 1",
            "place a 10000 1",
            "place a 2/4 1",
            "say",
            "say at a x",
            "say near a x 1",
            "unsay -1",
            "draw 1 a b c",
            "take 1",
            "beside",
            "beside at a x",
            "beside at a x 1 1",
            "beside a",
            "fixed",
            "fixed a",
            "fixed a z",
            "fixed A x",
            "fixed a x x",
            "height",
            "height 1",
            "height 1 1 1",
            "height 1 2/4",
            "height x 1",
            "height 1 x",
            " ; ".join(["settle"] * 12 + ["hello"]),
            "none",
            "done",
            "hello a x",
            "hello 1 1",
            "hello at a x 1",
            "hello level a b x",
            "fixed a x\n",
            "beside level a b x\n",
        ]
        lines += [question + " 1" for question in QUESTIONS] + [question + " ; " + question for question in QUESTIONS]
        for line in lines:
            self.assertEqual(desk.say(line), "no line", line)
        for thing in ODD_THINGS + (["many"], b"many", ("many",)):
            if not isinstance(thing, str):
                self.assertEqual(desk.say(thing), "no line")
        self.assertEqual((desk.say("text"), desk.say("many")), (ahead, "1"))

    def test_each_error_has_its_answer(self):
        # What the desk refuses is what the work behind it refuses.
        desk = desk_with(SQUARE)
        work = desk.work()
        for edit, error in ((("say", ("at", "z", "x", 1)), NoPoint), (("unsay", 100), OutOfPlace)):
            with self.assertRaises(error):
                work.do(edit)
        work.say(("at", "a", "x", 1))
        with self.assertRaises(Clash):
            work.say(("at", "a", "x", 2))
        self.assertTrue(issubclass(Clash, WorksError))


if __name__ == "__main__":
    unittest.main()
