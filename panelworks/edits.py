"""Edits of a drawing, by their forms."""

from panelworks.errors import OutOfPlace
from panelworks.forms import are_of, word_of
from panelworks.fractions import is_fraction
from panelworks.outlines import are_corners
from panelworks.sayings import has_saying_form, is_close
from panelworks.words import MOST_HIGH, MOST_LENGTH, MOST_NUMBER, MOST_TOOL, is_among, is_name

MOST_MANY = 12
EDITS = ("place", "settle", "say", "unsay", "renumber", "draw", "erase", "lift", "take", "lay", "many")

# What stands behind the word of each sort of edit but "many", one thing after the other.
EDIT_FORMS = {
    "place": ("name", "fraction", "fraction"),
    "settle": (),
    "say": ("saying",),
    "unsay": ("which",),
    "renumber": ("which", "number"),
    "draw": ("outline", "height"),
    "erase": ("which",),
    "lift": ("which", "height"),
    "take": ("side", "length"),
    "lay": ("side", "length"),
}
MOST_WHICH = 99


def is_edit(thing):
    """Whether it is an edit by its form."""
    if word_of(thing) != "many":
        return _is_single(thing)
    if len(thing) != 2 or not isinstance(thing[1], tuple):
        return False
    return 1 <= len(thing[1]) <= MOST_MANY and all([_is_single(one) for one in thing[1]])


def need_edit(thing):
    """Refuse what is no edit."""
    if not is_edit(thing):
        raise OutOfPlace("no edit")


def _is_single(thing):
    """Whether it is an edit that isn't made of others."""
    word = word_of(thing)
    return word in EDIT_FORMS and are_of(EDIT_FORMS[word], thing[1:], _fits)


def _fits(kind, part):
    """Whether a part of an edit is of the kind that is due there."""
    if kind == "name":
        return is_name(part)
    if kind == "fraction":
        return is_fraction(part) and is_close(part)
    if kind == "saying":
        return has_saying_form(part)
    if kind == "outline":
        return are_corners(part)
    if kind == "which":
        return is_among(part, 0, MOST_WHICH)
    if kind == "number":
        return is_among(part, -MOST_NUMBER, MOST_NUMBER)
    if kind == "height":
        return is_among(part, 0, MOST_HIGH)
    if kind == "side":
        return is_among(part, 1, MOST_TOOL)
    return is_among(part, 1, MOST_LENGTH)
