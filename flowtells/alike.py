"""Webs that are alike: their ties can be put to one another such that rounds go to rounds."""

from flowtells.matches import put, round_pieces
from flowtells.papers import Denial, Paper
from flowtells.webs import need_web


class Alike(Paper):
    """Two webs are alike: for each tie of the one the tie of the other to which it goes, -1 for a bridge."""

    def __init__(self, ties):
        super().__init__("alike", ties)
        self.ties = self.parts[0]


class Unlike(Denial):
    """Two webs are not alike."""

    def __init__(self):
        super().__init__("unlike")


def alike(one, other):
    """The Alike of two webs if they are alike, otherwise the Unlike."""
    need_web(one, "one")
    need_web(other, "other")
    goes, left = {}, round_pieces(other)
    # Each round is in one piece, and pieces to which one can be put can be put to one another: any of them will do.
    for piece in round_pieces(one):
        at, found = first_to_fit(piece, left)
        if found is None:
            return Unlike()
        goes.update(found)
        del left[at]
    return Unlike() if left else Alike([goes.get(tie, -1) for tie in range(len(one.ties))])


def first_to_fit(piece, others):
    """The index of the first of other pieces to which a piece can be put, and where its ties go; else None twice."""
    for at, other in enumerate(others):
        found = put(piece, other)
        if found is not None:
            return at, found
    return None, None
