"""Pockets of fields, where they meet, papers that show it, and what stands in them when it rains."""

from panelworks.errors import BadPaper, OutOfPlace
from panelworks.fields import beside, cells_of, field_by, height_of, is_cell, need_cell, need_field, plain_sides
from panelworks.groups import groups_of
from panelworks.words import is_among


def pockets(field, level):
    """The greatest groups of cells not above a level, in touch along sides."""
    need_field(field)
    if not is_among(level, 0, field[0]):
        raise OutOfPlace("no level of this field")
    return _pockets_at(field, level)


def meeting(field, one, other):
    """The least level at which one pocket has both cells."""
    _need_both(field, one, other)
    return _level_of(field, one, other)


def meeting_paper(field, one, other):
    """A paper that shows the meeting of two cells."""
    _need_both(field, one, other)
    if one == other:
        return ((one,), ())
    level = _level_of(field, one, other)
    # No way leads over the rim of what is reached from the one below the level.
    side = (one,)
    if height_of(field, one) < level:
        side = _pocket_with(field, level - 1, one)
    return (_way_in(field, _pocket_with(field, level, one), one, other), side)


def check_meeting(field, one, other, paper):
    """The number that a paper shows; refuse one that doesn't come out."""
    _need_both(field, one, other)
    if not isinstance(paper, tuple) or len(paper) != 2 or not all([isinstance(part, tuple) for part in paper]):
        raise BadPaper(None)
    way, side = paper
    if not _is_way(field, one, other, way):
        raise BadPaper("way")
    highest = max([height_of(field, cell) for cell in way])
    if one == other:
        if side != ():
            raise BadPaper("side")
    elif not _is_side(field, one, other, side) or not _holds_off(field, side, highest):
        raise BadPaper("side")
    return highest


def flooded(field):
    """What stands in each cell when it rains, and the rest flows off over the border."""
    need_field(field)
    found = {}
    for level in range(field[0] + 1):
        for pocket in _pockets_at(field, level):
            if any([_is_at_border(field, cell) for cell in pocket]):
                for cell in pocket:
                    found.setdefault(cell, level)
    return field_by(field, found)


def _need_both(field, one, other):
    need_field(field)
    need_cell(field, one)
    need_cell(field, other)


def _pockets_at(field, level):
    cells = [cell for cell in cells_of(field) if height_of(field, cell) <= level]
    numbers = {cell: number for number, cell in enumerate(cells)}
    links = []
    for cell in cells:
        links.extend([(numbers[cell], numbers[other]) for other in beside(field, cell) if other in numbers])
    groups = groups_of(len(cells), links)
    return tuple([tuple([cells[number] for number in group]) for group in groups])


def _pocket_with(field, level, cell):
    """The pocket at a level that has a cell, () without one."""
    for pocket in _pockets_at(field, level):
        if cell in pocket:
            return pocket
    return ()


def _level_of(field, one, other):
    level = 0
    while other not in _pocket_with(field, level, one):
        level += 1
    return level


def _way_in(field, pocket, one, other):
    """A way from one cell to another one within a pocket that has both."""
    before = {one: one}
    row = [one]
    while other not in before:
        following = []
        for cell in row:
            for near in beside(field, cell):
                if near in pocket and near not in before:
                    before[near] = cell
                    following.append(near)
        row = following
    way = [other]
    while way[-1] != one:
        way.append(before[way[-1]])
    return tuple(way[::-1])


def _is_way(field, one, other, way):
    """Whether cells lead from the one to the other, of the one alone where both are one."""
    if len(way) == 0 or not all([is_cell(field, cell) for cell in way]):
        return False
    if way[0] != one or way[-1] != other or (one == other and len(way) > 1):
        return False
    return all([following in beside(field, cell) for cell, following in zip(way, way[1:])])


def _is_side(field, one, other, side):
    """Whether it is a row of rising cells that has the one and not the other."""
    if not all([is_cell(field, cell) for cell in side]):
        return False
    if not all([cell < following for cell, following in zip(side, side[1:])]):
        return False
    return one in side and other not in side


def _holds_off(field, side, highest):
    """Whether none leaves a side but over a cell that is at least as high as the highest one."""
    for cell in side:
        for near in beside(field, cell):
            if near not in side and max(height_of(field, cell), height_of(field, near)) < highest:
                return False
    return True


def _is_at_border(field, cell):
    wide, long = plain_sides(field)
    return cell[0] in (0, wide - 1) or cell[1] in (0, long - 1)
