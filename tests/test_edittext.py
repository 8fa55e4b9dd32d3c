import random
import unittest

from panelworks.edits import is_edit
from panelworks.edittext import edit_text, read_edit, read_saying, saying_text

from tests.drafting import Due, Sheet, edit_from
from tests.test_edits import SINGLE

SAYINGS = (
    (("at", "p", "x", 0), "at p x 0"),
    (("at", "abcdefgh", "y", -999), "at abcdefgh y -999"),
    (("level", "p", "p", "x"), "level p p x"),
    (("apart", "p", "q", "y", 12), "apart p q y 12"),
    (("apart", "x", "y", "x", -1), "apart x y x -1"),
    (("middle", "p", "q", "r", "x"), "middle p q r x"),
    (("as", "p", "q", "x", "r", "s", "y", 2, 99), "as p q x r s y 2 99"),
    (("at", "at", "x", 1), "at at x 1"),
    # Whatever the size of their numbers.
    (("at", "p", "x", 9999), "at p x 9999"),
    (("apart", "p", "q", "y", -9999), "apart p q y -9999"),
    (("as", "p", "q", "x", "r", "s", "y", 0, 9999), "as p q x r s y 0 9999"),
)
EDITS = (
    (("place", "a", (0, 1), (5, 1)), "place a 0 5"),
    (("place", "abcdefgh", (-3, 7), (9999, 9998)), "place abcdefgh -3/7 9999/9998"),
    (("settle",), "settle"),
    (("unsay", 0), "unsay 0"),
    (("unsay", 9999), "unsay 9999"),
    (("renumber", 3, -7), "renumber 3 -7"),
    (("renumber", 100, 1000), "renumber 100 1000"),
    (("draw", ("a", "b", "c", "d"), 2), "draw 2 a b c d"),
    (("draw", ("a", "b", "c", "d", "e"), 0), "draw 0 a b c d e"),
    (("draw", tuple("abcdefghijkl"), 6), "draw 6 a b c d e f g h i j k l"),
    # However alike their names.
    (("draw", ("a",) * 4, 77), "draw 77 a a a a"),
    (("erase", 4), "erase 4"),
    (("lift", 4, 1), "lift 4 1"),
    (("take", 1, 6), "take 1 6"),
    (("take", 0, 9999), "take 0 9999"),
    (("lay", 2, 5), "lay 2 5"),
) + tuple((("say", saying), "say " + text) for saying, text in SAYINGS)

NO_SAYINGS = (
    "",
    "at",
    "at p",
    "at p x",
    "at p x 1 1",
    "at p z 1",
    "at p X 1",
    "at p at 1",
    "at p p 1",
    "at P x 1",
    "at abcdefghi x 1",
    "at p x 01",
    "at p x -0",
    "at p x +1",
    "at p x 1/2",
    "at p x 10000",
    "at p x -10000",
    "at p x one",
    "at p 1 x",
    "At p x 1",
    "near p x 1",
    "level p q",
    "level p x",
    "level p q at",
    "level p q r x",
    "level p q x 1",
    "apart p q x",
    "apart p q 1",
    "apart p q x 1 y",
    "middle p q x",
    "middle p q r",
    "middle p q r s x",
    "as p q x r s y 1",
    "as p q x r s y 1 2 3",
    "as p q x r s y -1 2",
    "as p q x r s y 1 -2",
    "as p q x r s y 1 02",
    "as p q x r s y 1 10000",
    "as p q r s x y 1 2",
    "say at p x 1",
    "p at x 1",
)
NO_EDITS = tuple("say " + text for text in NO_SAYINGS if text) + (
    "",
    "say",
    "place",
    "place a",
    "place a 0",
    "place a 0 0 0",
    "place A 0 0",
    "place 0 0 a",
    "place a 2/4 0",
    "place a 0 1/0",
    "place a 0 1/1",
    "place a -0 0",
    "place a 10000 0",
    "place a 0 1/10000",
    "place a 0.5 0",
    "place a 0 x",
    "settle 1",
    "Settle",
    "settle settle",
    "unsay",
    "unsay -1",
    "unsay a",
    "unsay 1 2",
    "unsay 00",
    "unsay 10000",
    "renumber 1",
    "renumber -1 1",
    "renumber 1 1 1",
    "renumber 1 -0",
    "renumber 1 1/2",
    "draw",
    "draw 1",
    "draw a b c d",
    "draw 1 a b c",
    "draw 1 " + " ".join("abcdefghijklm"),
    "draw -1 a b c d",
    "draw 1 a b c D",
    "draw 1 a b 3 d",
    "draw a b c d 1",
    "erase",
    "erase -1",
    "erase 1 1",
    "lift 1",
    "lift 1 -1",
    "lift 1 1 1",
    "take 1",
    "take 1 -1",
    "take 1 1 1",
    "take a 1",
    "lay 1",
    "lay -1 1",
    "lay 1 1 1",
    "many",
    "many settle",
    "settle ; settle",
    "undo",
    "work 4 4 2 2",
    "level p q x",
)


class Sayings(unittest.TestCase):
    def test_texts(self):
        for saying, text in SAYINGS:
            self.assertEqual(saying_text(saying), text)
            self.assertEqual(read_saying(text.split(" ")), saying)
        self.assertEqual(saying_text(saying=SAYINGS[0][0]), "at p x 0")
        self.assertEqual(read_saying(words=["level", "p", "q", "x"]), ("level", "p", "q", "x"))

    def test_great_numbers_as_texts(self):
        self.assertEqual(saying_text(("at", "p", "x", 10**30)), "at p x 1" + "0" * 30)

    def test_none(self):
        for text in NO_SAYINGS:
            self.assertIsNone(read_saying(text.split(" ")), text)
        for words in ([], ["at", "p q", "x", "1"], ["at", "p", "x", ""], ["at", "p", "x", "1\n"], ["at p x 1"]):
            self.assertIsNone(read_saying(words))


class Edits(unittest.TestCase):
    def test_texts(self):
        for edit, text in EDITS:
            self.assertEqual(edit_text(edit), text)
            self.assertEqual(read_edit(text.split(" ")), edit)
        self.assertEqual(edit_text(edit=("settle",)), "settle")
        self.assertEqual(read_edit(words=["settle"]), ("settle",))

    def test_many(self):
        self.assertEqual(edit_text(("many", (("settle",),))), "settle")
        edits = tuple(edit for edit, _ in EDITS[:12])
        text = edit_text(("many", edits))
        self.assertEqual(text, " ; ".join(text for _, text in EDITS[:12]))
        self.assertEqual(tuple(read_edit(part.split(" ")) for part in text.split(" ; ")), edits)

    def test_none(self):
        for text in NO_EDITS:
            self.assertIsNone(read_edit(text.split(" ")), text)
        wrong = ([], ["settle\n"], ["unsay", "1 "], ["settle", ""], ["say at p x 1"], ["draw", "1", "a b", "c", "d"])
        for words in wrong:
            self.assertIsNone(read_edit(words))

    def test_all_by_their_forms(self):
        for edit in SINGLE:
            self.assertEqual(read_edit(edit_text(edit).split(" ")), edit)

    def test_by_chance(self):
        chance = random.Random(381)
        for number in range(300):
            if number % 25 == 0:
                sheet = Sheet((4, 4, 4))
            edit = edit_from(chance, sheet)
            try:
                sheet = sheet.after(edit)
            except Due:
                pass
            self.assertTrue(is_edit(edit))
            some = edit[1] if edit[0] == "many" else (edit,)
            self.assertEqual(tuple(read_edit(text.split(" ")) for text in edit_text(edit).split(" ; ")), some)

    def test_spoilt_words(self):
        for edit, text in EDITS:
            words = text.split(" ")
            for k in range(len(words)):
                for other in ("", "%", "A", "1.5", "-", "00", "abcdefghi"):
                    self.assertIsNone(read_edit(words[:k] + [other] + words[k + 1:]))
            self.assertIsNone(read_edit(words + ["A"]))
            if words[0] != "draw":
                self.assertIsNone(read_edit(words + ["a"]))
                self.assertIsNone(read_edit(words + ["1"]))
                for k in range(len(words)):
                    self.assertIsNone(read_edit(words[:k] + words[k + 1:]))


if __name__ == "__main__":
    unittest.main()
