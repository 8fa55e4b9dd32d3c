"""What a stock is worth beside its target and what is reached, and ways that spoil a target."""

from panelworks.errors import OutOfPlace
from panelworks.fields import cells_of, height_of, is_nowhere_below, need_field, plain_sides
from panelworks.steps import need_depth, need_way
from panelworks.ways import walked
from panelworks.words import DEPTH

WORDS = ("low", "right", "high", "left", "part")


def words_at(target, reached, stock):
    """Row by row the word of each cell of a stock."""
    _need_judged(target, reached, stock)
    wide, long = plain_sides(stock)
    return tuple([tuple([_word_at(target, reached, stock, (i, j)) for i in range(wide)]) for j in range(long)])


def balance(target, reached, stock):
    """By the words that some cell has, how many cells have it, and how far they are off their targets together."""
    _need_judged(target, reached, stock)
    offs = {word: [] for word in WORDS}
    for cell in cells_of(stock):
        word = _word_at(target, reached, stock, cell)
        offs[word].append(abs(height_of(stock, cell) - height_of(target, cell)))
    return {word: (len(offs[word]), sum(offs[word])) for word in WORDS if len(offs[word]) > 0}


def is_made(target, reached, stock):
    """Whether each cell is at its target, or as near to it as is reached."""
    _need_judged(target, reached, stock)
    return all([_word_at(target, reached, stock, cell) in ("right", "left") for cell in cells_of(stock)])


def spoils(target, way, *, depth=DEPTH):
    """The number of the first step that leaves a cell below its target, and the first such cell; None without one."""
    need_field(target)
    need_way(way)
    need_depth(depth)
    for number, (state, _, _) in enumerate(walked(target, way, depth)):
        for cell in cells_of(target):
            if height_of(state[4], cell) < height_of(target, cell):
                return (number, cell)
    return None


def _need_judged(target, reached, stock):
    for field in (target, reached, stock):
        need_field(field)
    for field in (reached, stock):
        if field[0] != target[0] or plain_sides(field) != plain_sides(target):
            raise OutOfPlace("fields of unlike heights or sides")
    if not is_nowhere_below(reached, target):
        raise OutOfPlace("what is reached lies below its target")


def _word_at(target, reached, stock, cell):
    height = height_of(stock, cell)
    least = height_of(target, cell)
    most = height_of(reached, cell)
    if height < least:
        return "low"
    if height == least:
        return "right"
    if height > most:
        return "high"
    if height == most:
        return "left"
    return "part"
