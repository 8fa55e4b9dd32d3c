import random
import re
import unittest

from panelworks.drawingtext import read_work, work_text
from panelworks.errors import (
    BadBlock,
    BadFeature,
    BadRow,
    Clash,
    NoPoint,
    OutOfPlace,
    TooGreat,
    Twice,
)
from panelworks.work import Work

from tests.drafting import work_from
from tests.helpers import ODD_THINGS, refusal, whole

HEAD = "work 4 4 2 2"
POINTS = "\nplace a 1 1\nplace b 3 1\nplace c 3 3\nplace d 1 3"
SAID = "\nsay level a b y\nsay as a b x b c y 7 7"
TEXT = HEAD + POINTS + "\nplace e 1/2 -5/3" + SAID + "\ndraw 0 a b c d\ntake 1 2\ntake 2 1"

NAME, NUMBER, AXIS = "[a-z]{1,8}", "0|[1-9][0-9]{0,3}", "x|y"
SIGNED = NUMBER + "|-[1-9][0-9]{0,3}"
FRACTION = f"({SIGNED})(/([2-9]|[1-9][0-9]{{1,3}}))?"
SAYINGS = {
    "at": (NAME, AXIS, SIGNED),
    "level": (NAME, NAME, AXIS),
    "apart": (NAME, NAME, AXIS, SIGNED),
    "middle": (NAME, NAME, NAME, AXIS),
    "as": (NAME, NAME, AXIS, NAME, NAME, AXIS, NUMBER, NUMBER),
}


def forms_of(words):
    """What each word of a row must look like, as far as can be told, straight by the words of the document."""
    if words[0] == "work":
        return ("work",) + (NUMBER,) * 4
    if words[0] == "place":
        return ("place", NAME, FRACTION, FRACTION)
    if words[0] == "take":
        return ("take", NUMBER, NUMBER)
    if words[0] == "draw":
        return ("draw", NUMBER) + (NAME,) * max(4, min(12, len(words) - 2))
    return ("say", "|".join(SAYINGS)) + SAYINGS.get(words[1] if len(words) > 1 else None, ())


def place_by_words(text):
    """The row and the word that can't stand first, None where all can."""
    due = 0
    for number, row in enumerate(text.split("\n")):
        words = row.split(" ")
        if "" in words:
            return number + 1, 0
        rows = ("work",) if number == 0 else ("place", "say", "draw", "take")[due:]
        if words[0] not in rows:
            return number + 1, 1
        due = 0 if number == 0 else ("place", "say", "draw", "take").index(words[0])
        forms = forms_of(words)
        for at, form in enumerate(forms):
            if at == len(words) or not re.fullmatch(form, words[at]):
                return number + 1, at + 1
        if len(words) > len(forms):
            return number + 1, len(forms) + 1
    return None


class Texts(unittest.TestCase):
    def test_told(self):
        work = Work((4, 4, 2))
        self.assertEqual(work_text(work), HEAD)
        for name, x, y in (("a", 1, 1), ("b", 3, 1), ("c", 3, 3), ("d", 1, 3)):
            work.put(name, whole(x), whole(y))
        work.put("e", (1, 2), (-5, 3))
        work.draw(("a", "b", "c", "d"), 0)
        work.take(1, 2)
        work.say(("level", "a", "b", "y"))
        work.take(2, 1)
        self.assertEqual(work_text(work=work), TEXT.replace("\nsay as a b x b c y 7 7", ""))
        self.assertEqual(work_text(Work((8, 1, 6), depth=5)), "work 8 1 6 5")

    def test_read(self):
        work = read_work(text=TEXT)
        self.assertEqual((work.block(), work.depth()), ((4, 4, 2), 2))
        self.assertEqual(work.points()[4], ("e", (1, 2), (-5, 3)))
        self.assertEqual(work.sayings(), (("level", "a", "b", "y"), ("as", "a", "b", "x", "b", "c", "y", 7, 7)))
        self.assertEqual((work.features(), work.tools()), (((("a", "b", "c", "d"), 0),), ((1, 2), (2, 1))))
        # Its edits were done one behind the other.
        self.assertEqual((len(work), work.edits()[7]), (10, ("draw", ("a", "b", "c", "d"), 0)))
        self.assertEqual(work.undo(), ("take", 2, 1))
        self.assertEqual(len(read_work(HEAD)), 0)
        self.assertTrue(read_work("work 8 1 6 5") == Work((8, 1, 6), depth=5))

    def test_a_point_twice(self):
        work = read_work(HEAD + "\nplace a 1 1\nplace b 0 0\nplace a 2 2")
        self.assertEqual(work.points(), (("a", (2, 1), (2, 1)), ("b", (0, 1), (0, 1))))
        self.assertEqual(work_text(work), HEAD + "\nplace a 2 2\nplace b 0 0")

    def test_back_and_forth(self):
        chance = random.Random(391)
        for _ in range(40):
            work, _ = work_from(chance, chance.randint(0, 40))
            other = read_work(work_text(work))
            self.assertTrue(other == work)
            self.assertEqual(work_text(other), work_text(work))
            self.assertEqual(
                (other.places(), other.pieces(), other.target(), other.least(), other.reach(), other.way()),
                (work.places(), work.pieces(), work.target(), work.least(), work.reach(), work.way()),
            )
            many = len(work.points() + work.sayings() + work.features() + work.tools())
            self.assertEqual(len(other), many)


class Spoilt(unittest.TestCase):
    def refused(self, text, row, word):
        told = refusal(self, BadRow, read_work, text)
        self.assertEqual((told.row, told.word), (row, word), text)

    def test_no_text(self):
        for thing in ODD_THINGS + ([HEAD], HEAD.encode(), Work((4, 4, 2))):
            if not isinstance(thing, str):
                self.refused(thing, 0, 0)

    def test_the_first_row(self):
        for text, word in (
            ("", 0),
            (" ", 0),
            (" " + HEAD, 0),
            (HEAD + " ", 0),
            ("work 4  4 2 2", 0),
            ("Work 4 4 2 2", 1),
            ("4 4 2 2", 1),
            ("place a 1 1", 1),
            ("works 4 4 2 2", 1),
            ("work", 2),
            ("work 4", 3),
            ("work 4 4 2", 5),
            ("work 4 4 2 2 2", 6),
            ("work 4 4 2 2 x", 6),
            ("work -4 4 2 2", 2),
            ("work 4 04 2 2", 3),
            ("work 4 4 x 2", 4),
            ("work 4 4 2 1/2", 5),
            ("work 4 4 2 10000", 5),
            ("work x x x x x", 2),
        ):
            self.refused(text, 1, word)
            if text:
                self.refused(text + "\n", 1, word)
                self.refused(text + "\nplace", 1, word)
        self.refused("\n" + HEAD, 1, 0)

    def test_rows(self):
        for row, word in (
            ("", 0),
            (" place a 1 1", 0),
            ("place a 1 1 ", 0),
            ("place  a 1 1", 0),
            ("x  x", 0),
            ("settle", 1),
            ("unsay 0", 1),
            ("work 4 4 2 2", 1),
            ("lay 1 1", 1),
            ("Place a 1 1", 1),
            ("level a b x", 1),
            ("place", 2),
            ("place A", 2),
            ("place A 1 1", 2),
            ("place abcdefghi 1 1", 2),
            ("place a", 3),
            ("place a x", 3),
            ("place a 2/4 1", 3),
            ("place a 1", 4),
            ("place a 1 1/1", 4),
            ("place a 1 01", 4),
            ("place a 1 10000", 4),
            ("place a 1 1 1", 5),
            ("say", 2),
            ("say says", 2),
            ("say says a b c", 2),
            ("say at", 3),
            ("say at a", 4),
            ("say at a z", 4),
            ("say at a x", 5),
            ("say at a x 1/2", 5),
            ("say at a x -0", 5),
            ("say at a x 1 1", 6),
            ("say level a b", 5),
            ("say level a B x", 4),
            ("say level a b x x", 6),
            ("say apart a b x", 6),
            ("say middle a b 3 x", 5),
            ("say middle a b c", 6),
            ("say as a b x c d y 1", 10),
            ("say as a b x c d y -1 1", 9),
            ("say as a b x c d y 1 x", 10),
            ("say as a b x c d y 1 1 1", 11),
            ("say as a b c d x y 1 1", 5),
            ("draw", 2),
            ("draw a", 2),
            ("draw -1 a b c d", 2),
            ("draw 1", 3),
            ("draw 1 a b c", 6),
            ("draw 1 a b c 4", 6),
            ("draw 1 a b c d E", 7),
            ("draw 1 a b c d e f g h i j k l m", 15),
            ("draw 1 a b c d e f g h i j k l 3", 15),
            ("draw 1 a b 3 d e f g h i j k l m", 5),
            ("take", 2),
            ("take 1", 3),
            ("take 1 x", 3),
            ("take x 1", 2),
            ("take 1 -1", 3),
            ("take 1 1 1", 4),
        ):
            for behind in ("", "\n", "\nplace a 1 1\nx"):
                self.refused(HEAD + "\n" + row + behind, 2, word)
            if row.split(" ")[0] in ("", "place", "say", "draw", "take", "x"):
                self.refused(HEAD + "\nplace b 0 0\n" + row, 3, word)

    def test_rows_in_their_order(self):
        place, say, draw, take = "\nplace a 0 0", "\nsay at a x 0", "\ndraw 0 a b c d", "\ntake 1 1"
        for ahead, behind in ((say, place), (draw, place), (take, place), (draw, say), (take, say), (take, draw)):
            self.refused(HEAD + ahead + behind, 3, 1)
            self.refused(HEAD + place + ahead + behind, 4, 1)
            # The word ahead of what stands behind it.
            self.refused(HEAD + ahead + behind + " x", 3, 1)
            self.refused(HEAD + ahead + behind.replace(" ", "  "), 3, 0)

    def test_a_line_feed_at_the_end(self):
        self.refused(HEAD + "\n", 2, 0)
        self.refused(TEXT + "\n", 12, 0)
        self.refused(HEAD + "\n\nplace a 0 0", 2, 0)

    def test_by_chance(self):
        chance = random.Random(392)
        met = {}
        for _ in range(25):
            text = work_text(work_from(chance, 25)[0])
            for _ in range(20):
                rows = [row.split(" ") for row in text.split("\n")]
                row = rows[chance.randrange(len(rows))]
                k = chance.randrange(len(row))
                what = chance.choice(("other", "more", "less", "exchanged"))
                if what == "other":
                    row[k] = chance.choice(("x", "0", "-1", "1/2", "A", "", "place", "say", "at", "take", "12345"))
                elif what == "more":
                    row.insert(k + chance.randint(0, 1), chance.choice(("x", "1", "", "a")))
                elif what == "less":
                    del row[k]
                else:
                    m = chance.randrange(len(rows))
                    rows[rows.index(row)], rows[m] = rows[m], row
                spoilt = "\n".join(" ".join(row) for row in rows)
                wanted = place_by_words(spoilt)
                if wanted is not None:
                    self.refused(spoilt, *wanted)
                    met[wanted[1]] = met.get(wanted[1], 0) + 1
        self.assertGreater(min(met[word] for word in range(5)), 10)


class Behind(unittest.TestCase):
    def test_as_a_new_work_is(self):
        for head, place in (("0 4 2 2", 0), ("4 9 2 2", 1), ("9 9 9 9", 0), ("4 4 7 0", 2), ("4 4 0 2", 2)):
            self.assertEqual(refusal(self, BadBlock, read_work, f"work {head}").place, place)
            # Behind all rows.
            self.assertEqual(refusal(self, BadRow, read_work, f"work {head}\nplace").row, 2)
            self.assertEqual(refusal(self, BadBlock, read_work, f"work {head}\ntake 9 9").place, place)
        for depth in (0, 7, 9999):
            refusal(self, OutOfPlace, read_work, f"work 4 4 2 {depth}")
            refusal(self, OutOfPlace, read_work, f"work 4 4 2 {depth}\nsay at a x 1")

    def test_as_the_edits_are(self):
        def refused(error, rows, *fields):
            found = refusal(self, error, read_work, HEAD + rows)
            self.assertEqual(tuple(vars(found).values()), fields)

        refused(OutOfPlace, "\nplace a 1 1/100")
        refused(OutOfPlace, "\nplace a 1 1\nsay at z x 1000")
        refused(OutOfPlace, "\nsay as a a x a a y 0 1")
        refused(NoPoint, "\nplace a 1 1\nsay at z x 999", "z")
        refused(Clash, "\nplace a 1 1\nsay at a x 1\nsay at a y 1\nsay at a x 2\nsay at z x 1", 2)
        refused(TooGreat, "".join(f"\nplace {name} 0 0" for name in "abcdefghijklm"))
        refused(TooGreat, "\nplace a 0 0" + "\nsay level a a x" * 21)
        refused(OutOfPlace, POINTS + "\ndraw 3 a b c d")
        refused(OutOfPlace, POINTS + "\ndraw 7 a b c z")
        refused(OutOfPlace, POINTS + "\ndraw 1 a b c a")
        refused(NoPoint, POINTS + "\ndraw 3 a b c z", "z")
        refused(BadFeature, POINTS + "\ndraw 1 a b c d\ndraw 1 a c b d", 1)
        refused(TooGreat, POINTS + "\ndraw 1 a b c d" * 6)
        refused(OutOfPlace, "\ntake 5 1")
        refused(Twice, "\ntake 1 1\ntake 2 1\ntake 1 1")
        refused(TooGreat, "".join(f"\ntake 1 {length}" for length in range(1, 6)))
        # The first of two.
        refused(Twice, "\ntake 1 1\ntake 1 1\ntake 9 9")
        refused(OutOfPlace, "\ntake 9 9\ntake 1 1\ntake 1 1")


if __name__ == "__main__":
    unittest.main()
