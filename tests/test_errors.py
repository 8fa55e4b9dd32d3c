import inspect
import unittest

from panelworks import errors

FIELDS = {
    "BadRow": ("row", "word"),
    "BadSketch": ("part", "number"),
    "BadBlock": ("place",),
    "BadOutline": ("number",),
    "BadFeature": ("number",),
    "BadField": ("place",),
    "BadTools": ("number",),
    "BadWay": ("number",),
    "BadPaper": ("place",),
    "Clash": ("number",),
    "NoPoint": ("name",),
    "NoSaying": ("number",),
    "NoFeature": ("number",),
    "NoTool": ("tool",),
    "Beyond": ("place",),
    "Blocked": ("place",),
    "TooDeep": ("place",),
}
MAY_BE_LEFT_OUT = ("BadSketch", "BadBlock", "BadOutline", "BadFeature", "BadField", "BadTools", "BadWay", "BadPaper")
OF_A_TEXT = ("Twice", "OutOfPlace", "TooGreat", "Nothing", "NoToolThere", "Lifted", "Lowered")
UNDER = {
    "WorksError": (
        "BadRow",
        "BadSketch",
        "BadBlock",
        "BadOutline",
        "BadFeature",
        "BadField",
        "BadTools",
        "BadWay",
        "BadPaper",
        "Clash",
        "Twice",
        "OutOfPlace",
        "TooGreat",
    ),
    "MissError": ("NoPoint", "NoSaying", "NoFeature", "NoTool", "Nothing"),
    "FaultError": ("NoToolThere", "Lifted", "Lowered", "Beyond", "Blocked", "TooDeep"),
}
BASES = {"WorksError": ValueError, "MissError": LookupError, "FaultError": RuntimeError}


def error(name):
    return getattr(errors, name)


class Errors(unittest.TestCase):
    def test_each_stands_straight_under_its_base(self):
        for base, names in UNDER.items():
            self.assertEqual(error(base).__bases__, (BASES[base],))
            for name in names:
                self.assertEqual(error(name).__bases__, (error(base),), name)

    def test_there_are_no_others(self):
        told = {name for name, thing in vars(errors).items() if inspect.isclass(thing)}
        self.assertEqual(told, set(UNDER) | {name for names in UNDER.values() for name in names})

    def test_each_is_defined_here(self):
        for name in [*UNDER, *FIELDS, *OF_A_TEXT]:
            self.assertEqual(error(name).__module__, "panelworks.errors")

    def test_fields_by_place_and_by_name(self):
        for name, fields in FIELDS.items():
            things = [("thing", number) for number in range(len(fields))]
            for made in (error(name)(*things), error(name)(**dict(zip(fields, things)))):
                self.assertEqual([getattr(made, field) for field in fields], things, name)

    def test_fields_left_out_are_none(self):
        for name, fields in FIELDS.items():
            if name in MAY_BE_LEFT_OUT:
                made = error(name)()
                self.assertEqual([getattr(made, field) for field in fields], [None] * len(fields), name)
            else:
                with self.assertRaises(TypeError):
                    error(name)()

    def test_one_field_of_two_left_out(self):
        self.assertEqual((errors.BadSketch("points").part, errors.BadSketch("points").number), ("points", None))
        self.assertEqual((errors.BadSketch(number=3).part, errors.BadSketch(number=3).number), (None, 3))
        with self.assertRaises(TypeError):
            errors.BadRow(1)

    def test_made_of_a_text(self):
        for name in OF_A_TEXT:
            self.assertEqual(str(error(name)("what is wrong")), "what is wrong")

    def test_caught_by_their_bases(self):
        for base, names in UNDER.items():
            for name in names:
                things = ["thing"] * len(FIELDS.get(name, ("text",)))
                with self.assertRaises(BASES[base]):
                    raise error(name)(*things)


if __name__ == "__main__":
    unittest.main()
