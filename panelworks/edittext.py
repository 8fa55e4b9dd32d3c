"""Sayings and edits in words."""

from panelworks.forms import parts_by
from panelworks.fractions import fraction_text, read_fraction
from panelworks.outlines import LEAST_RING
from panelworks.sayings import SAYING_FORMS, is_axis
from panelworks.words import MOST_RING, is_name, number_of, signed_of

# What words stand behind that of each sort of edit, but of those that tell a saying, or names, of their own number.
EDIT_WORDS = {
    "place": ("point", "fraction", "fraction"),
    "settle": (),
    "unsay": ("whole",),
    "renumber": ("whole", "number"),
    "erase": ("whole",),
    "lift": ("whole", "whole"),
    "take": ("whole", "whole"),
    "lay": ("whole", "whole"),
}


def saying_text(saying):
    """The words of a saying."""
    return " ".join([str(part) for part in saying])


def edit_text(edit):
    """The words of an edit, of one that has many those of each."""
    word = edit[0]
    if word == "many":
        return " ; ".join([edit_text(one) for one in edit[1]])
    if word == "place":
        _, name, x, y = edit
        return f"place {name} {fraction_text(x)} {fraction_text(y)}"
    if word == "say":
        return f"say {saying_text(edit[1])}"
    if word == "draw":
        _, outline, height = edit
        return " ".join([word, str(height)] + list(outline))
    return " ".join([str(part) for part in edit])


def read_saying(words):
    """The saying that words tell, None where they tell none by their form."""
    saying, wrong = parts_by(_kinds_in_saying(words), words, read_part)
    if wrong is not None:
        return None
    return saying


def read_edit(words):
    """The edit that words tell, None where they tell none by their form."""
    edit, _ = looked_at(words)
    return edit


def looked_at(words):
    """The edit that words tell, and None; or None, and the number, from 1, of the first word that can't stand."""
    kinds = _kinds_behind(words)
    if kinds is None:
        return None, 1
    parts, wrong = parts_by(kinds, words[1:], read_part)
    if wrong is not None:
        return None, 1 + wrong
    if words[0] == "say":
        return ("say", parts), None
    if words[0] == "draw":
        return ("draw", parts[1:], parts[0]), None
    return (words[0],) + parts, None


def _kinds_behind(words):
    """The kinds of what must stand behind the first word of an edit, None where that is no edit's."""
    if len(words) == 0:
        return None
    if words[0] == "say":
        return _kinds_in_saying(words[1:])
    if words[0] == "draw":
        many = min(max(len(words) - 2, LEAST_RING), MOST_RING)
        return ("whole",) + ("point",) * many
    return EDIT_WORDS.get(words[0])


def _kinds_in_saying(words):
    """The kinds of what must stand in a saying, as far as its first word tells them."""
    if len(words) == 0 or words[0] not in SAYING_FORMS:
        return ("sort",)
    return ("sort",) + SAYING_FORMS[words[0]]


def read_part(kind, word):
    """What a word tells as a thing of a kind, whatever its size; None where it can't stand there."""
    if kind == "number":
        return signed_of(word)
    if kind in ("whole", "ratio"):
        return number_of(word)
    if kind == "fraction":
        return read_fraction(word)
    if kind == "point" and is_name(word):
        return word
    if kind == "axis" and is_axis(word):
        return word
    if kind == "sort" and word in SAYING_FORMS:
        return word
    return None
