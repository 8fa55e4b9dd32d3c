import unittest

from panelworks.edits import EDITS, MOST_MANY, is_edit, need_edit
from panelworks.errors import OutOfPlace

from tests.helpers import ODD_THINGS, refusal

NAMES = tuple("abcdefghijklm")
ONE = (1, 1)
SETTLE = ("settle",)
SAYINGS = (
    ("at", "a", "x", -999),
    ("at", "abcdefgh", "y", 999),
    ("level", "p", "p", "x"),
    ("apart", "p", "q", "y", 0),
    ("middle", "p", "q", "r", "x"),
    ("as", "p", "q", "x", "r", "s", "y", 1, 99),
)
NO_SAYINGS = ODD_THINGS + (
    ("at", "a", "x", 1000),
    ("at", "a", "x", -1000),
    ("at", "a", "z", 1),
    ("at", "A", "x", 1),
    ("at", "abcdefghi", "x", 1),
    ("at", "", "x", 1),
    ("at", "a", "x"),
    ("at", "a", "x", 1, 1),
    ("at", "a", "x", True),
    ("at", "a", "x", (1, 1)),
    ["at", "a", "x", 1],
    ("near", "a", "x", 1),
    ("level", "a", "x"),
    ("level", "a", "b", None),
    ("as", "p", "q", "x", "r", "s", "y", 0, 1),
    ("as", "p", "q", "x", "r", "s", "y", 1, 100),
    ("as", "p", "q", "x", "r", "s", "z", 1, 1),
    ("say", ("at", "a", "x", 1)),
)

SINGLE = (
    ("place", "a", ONE, ONE),
    ("place", "abcdefgh", (-9999, 1), (9999, 98)),
    ("place", "zz", (1, 99), (0, 1)),
    SETTLE,
    ("unsay", 0),
    ("unsay", 99),
    ("renumber", 0, -999),
    ("renumber", 99, 999),
    ("draw", NAMES[:4], 0),
    ("draw", NAMES[:5], 6),
    ("draw", NAMES[:7], 1),
    ("draw", NAMES[:11], 1),
    ("draw", NAMES[:12], 1),
    ("draw", ("abcdefgh", "b", "c", "zz"), 3),
    ("erase", 0),
    ("erase", 99),
    ("lift", 0, 0),
    ("lift", 99, 6),
    ("take", 1, 1),
    ("take", 4, 6),
    ("lay", 1, 6),
    ("lay", 4, 1),
) + tuple(("say", saying) for saying in SAYINGS)

NO_SINGLE = (
    ("place", "A", ONE, ONE),
    ("place", "", ONE, ONE),
    ("place", "abcdefghi", ONE, ONE),
    ("place", None, ONE, ONE),
    ("place", "a", (10000, 1), ONE),
    ("place", "a", (-10000, 1), ONE),
    ("place", "a", ONE, (1, 100)),
    ("place", "a", (2, 4), ONE),
    ("place", "a", ONE, (1, 0)),
    ("place", "a", ONE, (1, -1)),
    ("place", "a", 1, ONE),
    ("place", "a", ONE, 1.5),
    ("place", "a", ONE, [1, 1]),
    ("place", "a", ONE, (True, 1)),
    ("place", "a", ONE),
    ("place", "a", ONE, ONE, ONE),
    ("place", ("a", ONE, ONE)),
    ["place", "a", ONE, ONE],
    ("settle", ()),
    ("settle", None),
    "settle",
    ["settle"],
    ("say",),
    ("say", "at", "a", "x", 1),
    ("say", SAYINGS[0], SAYINGS[1]),
    ("say", (SAYINGS[0],)),
    ("unsay",),
    ("unsay", 0, 0),
    ("unsay", -1),
    ("unsay", 100),
    ("unsay", True),
    ("unsay", 1.0),
    ("unsay", "1"),
    ("unsay", None),
    ("renumber", 0),
    ("renumber", 0, 0, 0),
    ("renumber", 100, 0),
    ("renumber", -1, 0),
    ("renumber", 0, 1000),
    ("renumber", 0, -1000),
    ("renumber", 0, None),
    ("renumber", 0, False),
    ("renumber", 0, ONE),
    ("draw", NAMES[:3], 1),
    ("draw", NAMES[:13], 1),
    ("draw", (), 1),
    ("draw", ("a", "b", "c", "a"), 1),
    ("draw", ("a", "b", "c", "d", "d"), 1),
    ("draw", ("a", "b", "c", "D"), 1),
    ("draw", ("a", "b", "c", None), 1),
    ("draw", ("a", "b", "c", ["d"]), 1),
    ("draw", list(NAMES[:4]), 1),
    ("draw", "abcd", 1),
    ("draw", NAMES[:4], -1),
    ("draw", NAMES[:4], 7),
    ("draw", NAMES[:4], True),
    ("draw", NAMES[:4], None),
    ("draw", NAMES[:4]),
    ("draw", NAMES[:4], 1, 1),
    ("draw", 1, NAMES[:4]),
    ("erase", -1),
    ("erase", 100),
    ("erase",),
    ("erase", None),
    ("lift", 0),
    ("lift", 0, -1),
    ("lift", 0, 7),
    ("lift", 100, 0),
    ("lift", 0, 0, 0),
    ("lift", 0, True),
    ("take", 0, 1),
    ("take", 5, 1),
    ("take", 1, 0),
    ("take", 1, 7),
    ("take", 1),
    ("take", (1, 1)),
    ("take", True, 1),
    ("take", 1, 1, 1),
    ("lay", 0, 1),
    ("lay", 5, 1),
    ("lay", 1, 0),
    ("lay", 1, 7),
    ("lay", 1, None),
    ("lay",),
    ("undo",),
    ("many",),
    ("Place", "a", ONE, ONE),
    ("many", ()),
    ("many", None),
    ("many", [SETTLE]),
    ("many", SETTLE),
    ("many", (SETTLE,), ()),
    ("many", SETTLE, SETTLE),
    ("many", (SETTLE,) * 13),
    ("many", (("many", (SETTLE,)),)),
    ("many", (SETTLE, ("many", (SETTLE,)))),
    ["many", (SETTLE,)],
    ((), SETTLE),
    (SETTLE,),
    (["settle"],),
) + tuple(("say", thing) for thing in NO_SAYINGS)


class Edits(unittest.TestCase):
    def let_by(self, edit):
        self.assertIs(is_edit(edit), True, edit)
        self.assertIsNone(need_edit(edit))

    def refused(self, thing):
        self.assertIs(is_edit(thing), False, thing)
        refusal(self, OutOfPlace, need_edit, thing)

    def test_constants(self):
        self.assertEqual(MOST_MANY, 12)
        words = "place settle say unsay renumber draw erase lift take lay many"
        self.assertEqual(EDITS, tuple(words.split()))

    def test_single_ones(self):
        for edit in SINGLE:
            self.let_by(edit)
        self.assertIs(is_edit(thing=SETTLE), True)
        self.assertIsNone(need_edit(thing=SETTLE))

    def test_what_is_none(self):
        for thing in ODD_THINGS + NO_SINGLE:
            self.refused(thing)

    def test_many(self):
        for edit in SINGLE:
            self.let_by(("many", (edit,)))
            self.let_by(("many", (SETTLE,) * 11 + (edit,)))
        self.let_by(("many", SINGLE[:12]))
        self.refused(("many", SINGLE[:13]))
        for thing in ODD_THINGS + NO_SINGLE:
            self.refused(("many", (thing,)))
            self.refused(("many", (SETTLE, thing)))
            self.refused(("many", (thing, SETTLE)))


if __name__ == "__main__":
    unittest.main()
