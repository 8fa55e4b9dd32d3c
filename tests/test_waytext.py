import random
import unittest

from panelworks.errors import BadRow, BadWay
from panelworks.waytext import read_way, step_text, way_text

from tests.helpers import ODD_THINGS, field_from, refusal, refuses_in_order
from tests.stepping import NO_STEPS, WRONG_WAYS, way_from

WAY = (("tool", 2, 3), ("go", 0, -1), ("down", 1), ("cut", 4, -1), ("up",), ("go", -3, 7), ("tool", 4, 6), ("down", 0))
TEXT = "tool 2 3\ngo 0 -1\ndown 1\ncut 4 -1\nup\ngo -3 7\ntool 4 6\ndown 0"


def every_step():
    for side in range(1, 5):
        for length in range(1, 7):
            yield ("tool", side, length)
    for i in range(-3, 8):
        for j in range(-3, 8):
            yield ("go", i, j)
            yield ("cut", i, j)
    for height in range(6):
        yield ("down", height)
    yield ("up",)


class Texts(unittest.TestCase):
    def test_told(self):
        self.assertEqual(way_text(WAY), TEXT)
        self.assertEqual(way_text(way=()), "")
        self.assertEqual(way_text((("up",),)), "up")
        self.assertEqual(step_text(step=("cut", -1, 0)), "cut -1 0")
        self.assertEqual("\n".join(step_text(step) for step in WAY), TEXT)

    def test_refused(self):
        for thing in NO_STEPS:
            self.assertIsNone(refusal(self, BadWay, step_text, thing).number)
        refuses_in_order(self, way_text, {}, [("way", WRONG_WAYS)])


class Read(unittest.TestCase):
    def test_read_back(self):
        self.assertEqual(read_way(TEXT), WAY)
        self.assertEqual(read_way(text=""), ())
        way = tuple(every_step())
        self.assertEqual(read_way(way_text(way)), way)
        for step in way:
            self.assertEqual(read_way(step_text(step)), (step,))

    def test_by_chance(self):
        chance = random.Random(331)
        for _ in range(30):
            way = way_from(chance, field_from(chance), 2, chance.randint(0, 20), wrong=0.3)
            self.assertEqual(read_way(way_text(way)), way)

    def test_long_texts(self):
        way = tuple(every_step()) * 12
        self.assertGreater(len(way_text(way)), 20000)
        self.assertEqual(read_way(way_text(way)), way)
        told = refusal(self, BadRow, read_way, way_text(way) + "\nup up")
        self.assertEqual((told.row, told.word), (len(way) + 1, 2))

    def test_no_text(self):
        for thing in ODD_THINGS:
            if not isinstance(thing, str):
                told = refusal(self, BadRow, read_way, thing)
                self.assertEqual((told.row, told.word), (0, 0))
        for thing in (WAY, [TEXT], TEXT.encode()):
            self.assertEqual(vars(refusal(self, BadRow, read_way, thing)), {"row": 0, "word": 0})

    def test_rows(self):
        for row, word in (
            ("", 0),
            (" ", 0),
            ("  ", 0),
            (" up", 0),
            ("up ", 0),
            ("go  0 0", 0),
            ("go 0  0", 0),
            ("jump ", 0),
            (" jump", 0),
            ("jump  9", 0),
            ("go x  y", 0),
            ("x", 1),
            ("Up", 1),
            ("UP", 1),
            ("up;", 1),
            ("x 9 9", 1),
            ("0", 1),
            ("go-1 0", 1),
            ("up 0", 2),
            ("up up", 2),
            ("tool", 2),
            ("tool 2", 3),
            ("tool 2 3 4", 4),
            ("tool 0 1", 2),
            ("tool 5 1", 2),
            ("tool -1 1", 2),
            ("tool 1 0", 3),
            ("tool 1 7", 3),
            ("tool 5 7", 2),
            ("tool 5", 2),
            ("tool 5 7 9", 2),
            ("tool 1 7 9", 3),
            ("tool two 3", 2),
            ("tool 02 3", 2),
            ("tool +2 3", 2),
            ("tool 2/1 3", 2),
            ("tool 2.0 3", 2),
            ("tool 2 3x", 3),
            ("tool 2 3, 1", 3),
            ("go", 2),
            ("go 0", 3),
            ("go 0 0 0", 4),
            ("go -4 0", 2),
            ("go 8 0", 2),
            ("go 0 -4", 3),
            ("go 0 8", 3),
            ("go -0 0", 2),
            ("go 0 -0", 3),
            ("go 00 0", 2),
            ("go 0 01", 3),
            ("go -01 0", 2),
            ("go - 0", 2),
            ("go --1 0", 2),
            ("go 0 - 1", 3),
            ("go 12345678901234567890123 0", 2),
            ("go 0 " + "9" * 5000, 3),
            ("go " + "1 " * 2000 + "1", 4),
            ("cut 9 0", 2),
            ("cut 1", 3),
            ("cut 1 1 up", 4),
            ("down", 2),
            ("down 6", 2),
            ("down -1", 2),
            ("down 1 1", 3),
            ("down 10000", 2),
            ("down one", 2),
        ):
            for ahead, behind in ((0, ""), (1, "\nup"), (4, "\n"), (2, "\n ")):
                # The empty text is a way by itself.
                if row == behind == "":
                    continue
                told = refusal(self, BadRow, read_way, "down 5\n" * ahead + row + behind)
                self.assertEqual((told.row, told.word), (ahead + 1, word), row)

    def test_a_line_feed_at_the_end(self):
        for text, row in (("up\n", 2), (TEXT + "\n", 9), ("\n", 1), ("\nup", 1), ("up\n\nup", 2), ("up\n\n", 2)):
            told = refusal(self, BadRow, read_way, text)
            self.assertEqual((told.row, told.word), (row, 0))

    def test_spoilt_by_chance(self):
        chance = random.Random(332)
        rows = TEXT.split("\n")
        lengths = {"tool": 3, "go": 3, "down": 2, "cut": 3, "up": 1}
        for _ in range(300):
            at = chance.randrange(len(rows))
            words = rows[at].split(" ")
            k = chance.randrange(len(words))
            kind = chance.choice(("more", "less", "other"))
            if kind == "more":
                words, wanted = words + ["0"], lengths[words[0]] + 1
            elif kind == "less" and len(words) > 1:
                words, wanted = words[:-1], lengths[words[0]]
            else:
                words, wanted = words[:k] + [chance.choice(("x", "99", "-9", "1.0"))] + words[k + 1:], k + 1
            spoilt = rows[:at] + [" ".join(words)] + rows[at + 1:]
            told = refusal(self, BadRow, read_way, "\n".join(spoilt))
            self.assertEqual((told.row, told.word), (at + 1, wanted), words)


if __name__ == "__main__":
    unittest.main()
