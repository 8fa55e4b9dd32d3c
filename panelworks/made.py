"""All that is made of a drawing."""

from panelworks.bodies import pieces_of
from panelworks.fieldpaper import fields_by_pieces
from panelworks.reach import reached
from panelworks.solving import solved
from panelworks.ways import made_way


class Made:
    """A drawing and what is made of it, by their words; it is shared, as none of it changes any more."""

    def __init__(self, drawing, ahead):
        self.drawing = drawing
        self.answers = _answers_of(drawing, ahead)
        self._way = None

    def way(self):
        """A way that leaves what is reached."""
        # No edit is refused by it, and it takes longest of all, so it waits till it is asked for.
        if self._way is None:
            self._way = made_way(self.answers["target"], self.drawing["tools"], depth=self.drawing["depth"])
        return self._way


def _answers_of(drawing, ahead):
    """What is made of a drawing, by what was made of another one, if any, as far as both are alike."""
    if _is_kept(drawing, ahead, ("points", "sayings"), {}):
        places = ahead.answers["places"]
    else:
        places = solved(drawing["points"], drawing["sayings"])
    if _is_kept(drawing, ahead, ("features",), {"places": places}):
        pieces, target, least = [ahead.answers[word] for word in ("pieces", "target", "least")]
    else:
        pieces = pieces_of(drawing["block"], drawing["features"], places)
        target, least = fields_by_pieces(drawing["block"], pieces)
    if _is_kept(drawing, ahead, ("tools",), {"target": target}):
        reach = ahead.answers["reach"]
    else:
        reach = reached(target, drawing["tools"])
    return {"places": places, "pieces": pieces, "target": target, "least": least, "reach": reach}


def _is_kept(drawing, ahead, parts, answers):
    """Whether another drawing has the same parts, and the same answers were made of it."""
    if ahead is None or not all([drawing[part] == ahead.drawing[part] for part in parts]):
        return False
    return all([answers[word] == ahead.answers[word] for word in answers])
