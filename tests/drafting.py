"""Edits by chance, and what they come to straight by the words of the document."""

from itertools import combinations

from panelworks.bodies import pieces_of
from panelworks.edits import is_edit
from panelworks.errors import (
    BadFeature,
    BadOutline,
    Clash,
    NoFeature,
    NoPoint,
    NoSaying,
    NoTool,
    OutOfPlace,
    TooGreat,
    Twice,
)
from panelworks.fieldpaper import fields_of
from panelworks.outlines import need_outline
from panelworks.reach import reached
from panelworks.solving import solved
from panelworks.work import Work

from tests.helpers import clash_number, fraction_from, pair, saying_from

NAMES = "abcdefghijklmn"
WORDS = ("places", "pieces", "target", "least", "reach")


class Due(Exception):
    """A refusal that is due: its class, what its fields tell, and the number within a "many"."""

    def __init__(self, error, *fields):
        Exception.__init__(self, error.__name__, fields)
        self.error, self.fields, self.number = error, fields, -1


class Sheet:
    """Block, depth, points, sayings, features and tools as they stand; one that is made isn't changed."""

    def __init__(self, block, depth=2, points=(), sayings=(), features=(), tools=()):
        self.block, self.depth = block, depth
        self.points, self.sayings, self.features, self.tools = points, sayings, features, tools

    def parts(self):
        return self.block, self.depth, self.points, self.sayings, self.features, self.tools

    def names(self):
        return [point[0] for point in self.points]

    def places(self):
        return solved(self.points, self.sayings)

    def made(self):
        """All answers, made anew of these parts."""
        places = self.places()
        target, least = fields_of(self.block, self.features, places)
        pieces = pieces_of(self.block, self.features, places)
        return dict(zip(WORDS, (places, pieces, target, least, reached(target, self.tools))))

    def changed(self, **parts):
        names = ("block", "depth", "points", "sayings", "features", "tools")
        return Sheet(**{**dict(zip(names, self.parts())), **parts})

    def after(self, edit):
        """The sheet behind an edit; Due of what is refused."""
        if not is_edit(edit):
            raise Due(OutOfPlace)
        sheet = self
        if edit[0] == "many":
            for number, one in enumerate(edit[1]):
                try:
                    sheet = sheet.after_one(one)
                except Due as due:
                    due.number = number
                    raise
        else:
            sheet = self.after_one(edit)
        sheet.need_no_clash()
        places = sheet.places()
        for number, (outline, _) in enumerate(sheet.features):
            try:
                need_outline(places, outline)
            except BadOutline:
                raise Due(BadFeature, number) from None
        return sheet

    def need_no_clash(self):
        number = clash_number(self.points, self.sayings) if self.sayings else None
        if number is not None:
            raise Due(Clash, number)

    def need_names(self, names):
        for name in names:
            if name not in self.names():
                raise Due(NoPoint, name)

    def after_one(self, edit):
        """The sheet behind an edit that is no "many", by what the edit names."""
        return getattr(self, "after_" + edit[0])(*edit[1:])

    def after_place(self, name, x, y):
        if name in self.names():
            return self.changed(points=tuple((name, x, y) if one[0] == name else one for one in self.points))
        if len(self.points) == 12:
            raise Due(TooGreat)
        return self.changed(points=self.points + ((name, x, y),))

    def after_settle(self):
        self.need_no_clash()
        places = self.places()
        for _, *both in places:
            for top, bottom in both:
                if not -9999 <= top <= 9999 or bottom > 99:
                    raise Due(TooGreat)
        return self.changed(points=places)

    def after_say(self, saying):
        names = {"at": (1,), "level": (1, 2), "apart": (1, 2), "middle": (1, 2, 3), "as": (1, 2, 4, 5)}
        self.need_names([saying[at] for at in names[saying[0]]])
        if len(self.sayings) == 20:
            raise Due(TooGreat)
        return self.changed(sayings=self.sayings + (saying,))

    def after_unsay(self, number):
        if number not in range(len(self.sayings)):
            raise Due(NoSaying, number)
        return self.changed(sayings=tuple(one for k, one in enumerate(self.sayings) if k != number))

    def after_renumber(self, number, to):
        if number not in range(len(self.sayings)):
            raise Due(NoSaying, number)
        saying = list(self.sayings[number])
        if saying[0] not in ("at", "apart"):
            raise Due(OutOfPlace)
        saying[-1] = to
        return self.changed(sayings=tuple(tuple(saying) if k == number else one for k, one in enumerate(self.sayings)))

    def after_draw(self, outline, height):
        self.need_names(outline)
        if height > self.block[2]:
            raise Due(OutOfPlace)
        if len(self.features) == 5:
            raise Due(TooGreat)
        return self.changed(features=self.features + ((outline, height),))

    def after_erase(self, number):
        if number not in range(len(self.features)):
            raise Due(NoFeature, number)
        return self.changed(features=tuple(one for k, one in enumerate(self.features) if k != number))

    def after_lift(self, number, height):
        if number not in range(len(self.features)):
            raise Due(NoFeature, number)
        if height > self.block[2]:
            raise Due(OutOfPlace)
        outline = self.features[number][0]
        return self.changed(
            features=tuple((outline, height) if k == number else one for k, one in enumerate(self.features))
        )

    def after_take(self, *tool):
        if tool in self.tools:
            raise Due(Twice)
        if len(self.tools) == 4:
            raise Due(TooGreat)
        return self.changed(tools=self.tools + (tool,))

    def after_lay(self, *tool):
        if tool not in self.tools:
            raise Due(NoTool, tool)
        return self.changed(tools=tuple(one for one in self.tools if one != tool))


def squares(sheet):
    """Outlines of four names that are rectangles where the points stand, in each turn."""
    spots = {}
    for name, x, y in sheet.places():
        spots.setdefault((x, y), []).append(name)
    found = []
    for (x, y), (x2, y2) in combinations(spots, 2):
        others = ((x2, y), (x, y2))
        if x != x2 and y != y2 and all(spot in spots for spot in others):
            found.append(tuple(spots[spot][0] for spot in ((x, y), (x2, y), (x2, y2), (x, y2))))
    return found


def frame(chance, sheet):
    """A "many" that places four points round a rectangle."""
    names = chance.sample(NAMES[:12], 4)
    xs, ys = ([pair(one) for one in sorted(chance.sample(range(-1, most + 2), 2))] for most in sheet.block[:2])
    if chance.random() < 0.3:
        xs = [(1, 2), (7, 3)]
    spots = ((xs[0], ys[0]), (xs[1], ys[0]), (xs[1], ys[1]), (xs[0], ys[1]))
    edits = [("place", name) + spot for name, spot in zip(names, spots)]
    if chance.random() < 0.7:
        edits.append(("draw", tuple(names), chance.choice((0, 1, chance.randint(0, sheet.block[2])))))
    return ("many", tuple(edits))


def edit_from(chance, sheet, many=True):
    """An edit by chance, often one that isn't refused."""
    names = sheet.names() or ["a"]
    word = chance.choice(
        ["frame", "place", "place", "settle", "say", "say", "unsay", "renumber", "draw", "draw"]
        + ["erase", "lift", "take", "take", "lay", "many"]
    )
    if word == "frame" and many:
        return frame(chance, sheet)
    if word == "many" and many:
        return ("many", tuple(edit_from(chance, sheet, False) for _ in range(chance.randint(1, 4))))
    if word == "settle":
        return ("settle",)
    if word == "say":
        return ("say", saying_from(chance, names + ([chance.choice(NAMES)] if chance.random() < 0.2 else [])))
    if word in ("unsay", "erase"):
        return (word, chance.randint(0, max(0, len(sheet.sayings if word == "unsay" else sheet.features))))
    if word == "renumber":
        return (word, chance.randint(0, len(sheet.sayings)), chance.randint(-5, 5))
    if word == "lift":
        return (word, chance.randint(0, len(sheet.features)), chance.randint(0, min(6, sheet.block[2] + 1)))
    if word == "draw":
        outlines = squares(sheet) + [tuple(chance.sample(NAMES, chance.randint(4, 6)))]
        return (word, chance.choice(outlines), chance.randint(0, min(6, sheet.block[2] + 1)))
    if word in ("take", "lay"):
        if sheet.tools and chance.random() < 0.6:
            return (word,) + chance.choice(sheet.tools)
        return (word, chance.randint(1, 3), chance.randint(1, 6))
    return ("place", chance.choice(NAMES), fraction_from(chance, 8, 3), fraction_from(chance, 8, 3))


def work_from(chance, many, block=None):
    """A work behind edits by chance, and its sheet."""
    block = block or (chance.randint(1, 5), chance.randint(1, 5), chance.randint(1, 6))
    depth = chance.randint(1, 4)
    work, sheet = Work(block, depth=depth), Sheet(block, depth)
    begun = [frame(chance, sheet), ("take", 1, chance.randint(3, 6)), frame(chance, sheet)]
    begun.append(("take", 2, chance.randint(1, 6)))
    for number in range(many):
        edit = begun[number] if number < len(begun) else edit_from(chance, sheet)
        try:
            sheet = sheet.after(edit)
        except Due:
            continue
        work.do(edit)
    return work, sheet
