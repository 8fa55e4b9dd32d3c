"""Ground by slabs: what is put together of runs and of slabs, and what is told of them.

Runs are a tuple of rising pairs of fractions, none of which begins where the one ahead ends. Slabs are a
tuple of rising (left, right, runs), none without runs, those of like runs not side by side.
"""

from panelworks.fractions import compared, in_order, is_under, less, plus, times, total
from panelworks.groups import groups_of


def joined_runs(one, other, word):
    """The runs of what either has, of what both have, or of the first one less the second one."""
    mine = _ends(one)
    others = _ends(other)
    found = []
    at = by = 0
    inside = False
    while at < len(mine) or by < len(others):
        order = _order_of(mine, at, others, by)
        end = others[by] if order > 0 else mine[at]
        if order < 1:
            at += 1
        if order > -1:
            by += 1
        # Behind an odd number of ends one is within a run.
        if _is_wanted(at % 2 == 1, by % 2 == 1, word) != inside:
            found.append(end)
            inside = not inside
    return pairs_of(found)


def joined_slabs(one, other, word):
    """The slabs of what either has, of what both have, or of the first one less the second one."""
    lines = in_order([line for slab in one + other for line in slab[:2]])
    mine = _spread(one, lines)
    others = _spread(other, lines)
    rows = []
    for number, (left, right) in enumerate(zip(lines, lines[1:])):
        rows.append((left, right, joined_runs(mine[number], others[number], word)))
    return neat_slabs(rows)


def slabs_of(rectangles):
    """The slabs of all that some rectangles have."""
    lines = in_order([line for rectangle in rectangles for line in rectangle[::2]])
    heights = in_order([end for rectangle in rectangles for end in rectangle[1::2]])
    columns = {line: number for number, line in enumerate(lines)}
    ranks = {end: number for number, end in enumerate(heights)}
    stacks = [[] for _ in lines]
    for left, low, right, high in rectangles:
        for column in range(columns[left], columns[right]):
            stacks[column].append((ranks[low], ranks[high]))
    rows = []
    for number, (left, right) in enumerate(zip(lines, lines[1:])):
        runs = [(heights[low], heights[high]) for low, high in _grown_together(stacks[number])]
        rows.append((left, right, tuple(runs)))
    return neat_slabs(rows)


def neat_slabs(rows):
    """The slabs of rising rows of slabs: without empty ones, those of like runs side by side made one."""
    found = []
    for left, right, runs in rows:
        if len(runs) == 0:
            continue
        if len(found) > 0 and found[-1][1] == left and found[-1][2] == runs:
            found[-1] = (found[-1][0], right, runs)
        else:
            found.append((left, right, runs))
    return tuple(found)


def moved_slabs(slabs, by):
    """The slabs of the same ground so much further."""
    found = []
    for left, right, runs in slabs:
        further = [(plus(low, by[1]), plus(high, by[1])) for low, high in runs]
        found.append((plus(left, by[0]), plus(right, by[0]), tuple(further)))
    return tuple(found)


def rectangles_of(slabs):
    """A rectangle for each run, as the slabs have them."""
    return tuple([(left, low, right, high) for left, right, runs in slabs for low, high in runs])


def area_of(slabs):
    """The area of all slabs together."""
    return total([times(less(right, left), _length_of(runs)) for left, right, runs in slabs])


def border_of(slabs):
    """How long all is that lies between what the slabs have and what they haven't."""
    lengths = []
    for left, right, runs in slabs:
        lengths.append(times((2 * len(runs), 1), less(right, left)))
    for before, behind in _sides_of(slabs):
        lengths.append(_length_of(joined_runs(before, behind, "less")))
        lengths.append(_length_of(joined_runs(behind, before, "less")))
    return total(lengths)


def islands_of(slabs):
    """The slabs of each part that doesn't meet another one along a side, by their corners."""
    rectangles = rectangles_of(slabs)
    groups = groups_of(len(rectangles), _links_of(slabs))
    return [slabs_of([rectangles[number] for number in group]) for group in groups]


def pairs_of(ends):
    """Each two ends, one behind the other, as a run."""
    return tuple([(low, high) for low, high in zip(ends[::2], ends[1::2])])


def _ends(runs):
    return [end for run in runs for end in run]


def _order_of(mine, at, others, by):
    """-1 where the end at comes ahead of the other ones' end by, 1 where it comes behind, else 0."""
    if at == len(mine):
        return 1
    if by == len(others):
        return -1
    return compared(mine[at], others[by])


def _is_wanted(mine, other, word):
    if word == "either":
        return mine or other
    if word == "both":
        return mine and other
    return mine and not other


def _spread(slabs, lines):
    """The runs of slabs from each of the lines on, () where they have none; all their ends are lines."""
    places = {line: number for number, line in enumerate(lines)}
    found = [()] * len(lines)
    for left, right, runs in slabs:
        for number in range(places[left], places[right]):
            found[number] = runs
    return found


def _grown_together(pairs):
    """Pairs of whole numbers as rising ones, those that overlap or meet made one."""
    found = []
    for low, high in sorted(pairs):
        if len(found) > 0 and low <= found[-1][1]:
            found[-1] = (found[-1][0], max(found[-1][1], high))
        else:
            found.append((low, high))
    return found


def _length_of(runs):
    return total([less(high, low) for low, high in runs])


def _sides_of(slabs):
    """The runs before and behind each line at which a slab begins or ends."""
    found = []
    end = None
    ahead = ()
    for left, right, runs in slabs:
        if end != left:
            found.append((ahead, ()))
            ahead = ()
        found.append((ahead, runs))
        end = right
        ahead = runs
    found.append((ahead, ()))
    return found


def _links_of(slabs):
    """The numbers of each two rectangles of slabs that meet along an upright side."""
    found = []
    first = 0
    for one, other in zip(slabs, slabs[1:]):
        following = first + len(one[2])
        if one[1] == other[0]:
            found.extend([(first + at, following + by) for at, by in _shared_pairs(one[2], other[2])])
        first = following
    return found


def _shared_pairs(one, other):
    """The numbers of each two runs, of the one and of the other, that have some length in common."""
    found = []
    at = by = 0
    while at < len(one) and by < len(other):
        if is_under(one[at][0], other[by][1]) and is_under(other[by][0], one[at][1]):
            found.append((at, by))
        if is_under(one[at][1], other[by][1]):
            at += 1
        else:
            by += 1
    return found
