"""Papers that show where points come to stand, what a saying is beside others, and what is left open."""

from panelworks.errors import BadPaper
from panelworks.fractions import NOUGHT, less
from panelworks.papers import are_multipliers, first_other, is_motion, need_holding, need_multipliers, need_parts
from panelworks.papers import need_stands, need_tuple, row_sum, terms_of
from panelworks.sayings import need_saying, need_sketch, plain_coordinates, plain_row, row_holds, row_value, values_of
from panelworks.solving import nearest
from panelworks.system import need_solvable


def near_paper(points, sayings):
    """A paper that shows the nearest places at which all sayings hold."""
    return nearest(points, need_solvable(points, sayings))


def word_paper(points, sayings, saying):
    """A paper that shows what a saying is beside the others."""
    system = need_solvable(points, sayings)
    need_saying(points, saying)
    line = system.line_beside(saying)
    word = system.word_of(line)
    if word == "free":
        return (word, system.motion(system.lines.first_of(line)))
    # The line is the saying's own row, as often as its last number tells, and the rows of the others.
    return (word, system.multipliers(line, len(sayings), -line[-1]))


def ways_paper(points, sayings):
    """A paper that shows how many motions the sayings leave."""
    system = need_solvable(points, sayings)
    lines = system.lines.by_pivot()
    motions = []
    sums = []
    for column, coordinate in enumerate(system.coordinates):
        if column in lines:
            line = lines[column]
            sums.append((coordinate, system.multipliers(line, len(sayings), line[column])))
        else:
            motions.append((coordinate, system.motion(column)))
    return (tuple(motions), tuple(sums))


def check_near(points, sayings, paper):
    """The places that a paper shows to be the nearest; refuse one that doesn't come out."""
    need_sketch(points, sayings)
    need_parts(paper, 2)
    places, multipliers = paper
    need_tuple(places)
    need_tuple(multipliers)
    need_stands(places, points, "places")
    need_multipliers(multipliers, len(sayings))
    coordinates = plain_coordinates(points)
    rows = [plain_row(coordinates, saying) for saying in sayings]
    ahead = values_of(points)
    behind = values_of(places)
    need_holding([row_holds(behind, row) for row in rows])
    moves = {coordinate: less(ahead[coordinate], behind[coordinate]) for coordinate in coordinates}
    wrong = first_other(coordinates, row_sum(rows, multipliers)[0], moves)
    if wrong is not None:
        raise BadPaper(("move", wrong))
    return places


def check_word(points, sayings, saying, paper):
    """The word that a paper shows of a saying beside others; refuse one that doesn't come out."""
    need_solvable(points, sayings)
    need_saying(points, saying)
    need_parts(paper, 2)
    word, part = paper
    if word not in ("follows", "clashes", "free"):
        raise BadPaper(None)
    need_tuple(part)
    coordinates = plain_coordinates(points)
    rows = [plain_row(coordinates, one) for one in sayings]
    row = plain_row(coordinates, saying)
    if word == "free":
        need_stands(part, points, "motion")
        _need_open(rows, row, values_of(part))
    else:
        need_multipliers(part, len(sayings))
        _need_told(coordinates, row, row_sum(rows, part), word)
    return word


def check_ways(points, sayings, paper):
    """The number of motions that a paper shows; refuse one that doesn't come out."""
    need_sketch(points, sayings)
    need_parts(paper, 2)
    motions, sums = paper
    need_tuple(motions)
    need_tuple(sums)
    coordinates = plain_coordinates(points)
    rows = [plain_row(coordinates, saying) for saying in sayings]
    _need_pairs(motions, coordinates, "motions", lambda thing: is_motion(thing, points))
    _need_motions(motions, rows)
    _need_pairs(sums, coordinates, "sums", lambda thing: are_multipliers(thing, len(rows)))
    _need_sums(sums, rows)
    there = [coordinate for coordinate, _ in motions + sums]
    for number, coordinate in enumerate(coordinates):
        if there.count(coordinate) != 1:
            raise BadPaper(("coordinate", number))
    return len(motions)


def _need_open(rows, row, moves):
    """Refuse moves that don't keep all sayings, and such as keep the one that is looked at, too."""
    need_holding([row_value(moves, one) == NOUGHT for one in rows])
    if row_value(moves, row) == NOUGHT:
        raise BadPaper(("saying", len(rows)))


def _need_told(coordinates, row, made, word):
    """Refuse what is made of the rows where it isn't what the word tells of this row."""
    factors, number = made
    wrong = first_other(coordinates, factors, terms_of(row))
    if wrong is None and (number == (row[1], 1)) != (word == "follows"):
        wrong = len(coordinates)
    if wrong is not None:
        raise BadPaper(("sum", wrong))


def _need_pairs(part, coordinates, word, fits):
    """Refuse what are no pairs of a coordinate and what fits, the coordinates in order."""
    ahead = -1
    for number, thing in enumerate(part):
        if not isinstance(thing, tuple) or len(thing) != 2:
            raise BadPaper((word, number))
        if thing[0] not in coordinates or not fits(thing[1]):
            raise BadPaper((word, number))
        at = coordinates.index(thing[0])
        if at <= ahead:
            raise BadPaper((word, number))
        ahead = at


def _need_motions(motions, rows):
    """Refuse motions that don't keep all sayings, or go along with the coordinate of another one."""
    own = [coordinate for coordinate, _ in motions]
    for number, (coordinate, motion) in enumerate(motions):
        moves = values_of(motion)
        kept = all([row_value(moves, row) == NOUGHT for row in rows])
        if not kept or first_other(own, moves, {coordinate: (1, 1)}) is not None:
            raise BadPaper(("motions", number))


def _need_sums(sums, rows):
    """Refuse sums of rows that don't have 1 at their own coordinate, and 0 at those of the others."""
    own = [coordinate for coordinate, _ in sums]
    for number, (coordinate, multipliers) in enumerate(sums):
        factors, _ = row_sum(rows, multipliers)
        if first_other(own, factors, {coordinate: (1, 1)}) is not None:
            raise BadPaper(("sums", number))
