"""All refusals of the program, each with what it tells."""


class WorksError(ValueError):
    """A refusal of what is handed in."""


class BadRow(WorksError):
    """A row of a text that can't stand, and the word in it that can't."""

    def __init__(self, row, word):
        self.row = row
        self.word = word


class BadSketch(WorksError):
    """What are no points, no places or no sayings, and the first one that is none."""

    def __init__(self, part=None, number=None):
        self.part = part
        self.number = number


class BadBlock(WorksError):
    """What is no block, and the first of its numbers that can't be."""

    def __init__(self, place=None):
        self.place = place


class BadOutline(WorksError):
    """What is no fair loop, and its first edge that can't be."""

    def __init__(self, number=None):
        self.number = number


class BadFeature(WorksError):
    """What are no features, and the first one that is none."""

    def __init__(self, number=None):
        self.number = number


class BadField(WorksError):
    """What is no field, and the place in it that can't be."""

    def __init__(self, place=None):
        self.place = place


class BadTools(WorksError):
    """What are no tools, and the first one that is none."""

    def __init__(self, number=None):
        self.number = number


class BadWay(WorksError):
    """What is no way, and the first thing in it that is no step."""

    def __init__(self, number=None):
        self.number = number


class BadPaper(WorksError):
    """A paper that doesn't come out, and the first place in it at which it doesn't."""

    def __init__(self, place=None):
        self.place = place


class Clash(WorksError):
    """The number of the first saying with which those ahead of it clash."""

    def __init__(self, number):
        self.number = number


class Twice(WorksError):
    """What is there already."""


class OutOfPlace(WorksError):
    """What is none of what is asked for."""


class TooGreat(WorksError):
    """What goes beyond a limit."""


class MissError(LookupError):
    """A refusal of what isn't there."""


class NoPoint(MissError):
    """The name of no point."""

    def __init__(self, name):
        self.name = name


class NoSaying(MissError):
    """The number of no saying."""

    def __init__(self, number):
        self.number = number


class NoFeature(MissError):
    """The number of no feature."""

    def __init__(self, number):
        self.number = number


class NoTool(MissError):
    """A tool that isn't there."""

    def __init__(self, tool):
        self.tool = tool


class Nothing(MissError):
    """Nothing is there that could be taken back or done again."""


class FaultError(RuntimeError):
    """A refusal of a step that can't be done."""


class NoToolThere(FaultError):
    """A step without a tool."""


class Lifted(FaultError):
    """A step that goes lowered alone."""


class Lowered(FaultError):
    """A step that goes lifted alone."""


class Beyond(FaultError):
    """What is no place of the tool."""

    def __init__(self, place):
        self.place = place


class Blocked(FaultError):
    """The first cell that is in the way."""

    def __init__(self, place):
        self.place = place


class TooDeep(FaultError):
    """The first cell from which too much would go at once."""

    def __init__(self, place):
        self.place = place
