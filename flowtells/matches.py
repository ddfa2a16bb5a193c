"""Pieces of webs, put to one another tie by tie such that rounds go to rounds."""

from flowtells.joins import names_in
from flowtells.pieces import together
from flowtells.webs import rounds


class RoundPiece:
    """A piece that is no bridge: its rounds, and for each two of its ties, or one alone, how long their rounds are."""

    def __init__(self, circles):
        self.circles = circles
        self.lengths = {}
        for many, circle in sorted([(len(circle), circle) for circle in circles]):
            for pair in [(tie, by) for tie in circle for by in circle]:
                self.lengths.setdefault(pair, []).append(many)
        self.ties = [tie for tie, by in sorted(self.lengths) if tie == by]

    def traits(self):
        """Of all ties what does not depend on their numbers."""
        return sorted([[self.lengths[tie, tie]] + sorted([self.lengths[tie, by] for by in self.ties])
                       for tie in self.ties])


def round_pieces(web):
    """All pieces of a web that are no bridges."""
    circles = rounds(web)
    names = names_in(len(web.ties), circles)
    return [RoundPiece(some) for some in together([(circle, names[circle[0]]) for circle in circles])]


def put(one, other):
    """For each tie of a piece the tie of another one to which it goes, None if rounds cannot go to rounds."""
    # The traits nearly always tell whether they can, and leave few ways to try.
    if len(one.circles) != len(other.circles) or one.traits() != other.traits():
        return None
    return put_on(one, other, {}, one.ties)


def put_on(one, other, goes, left):
    """Where all ties go, if some go as told and these are left; None if they cannot go on so."""
    if not left:
        return goes
    tie, *rest = left
    for goal in other.ties:
        if goal not in list(goes.values()) and fits(one, other, goes, tie, goal):
            found = put_on(one, other, {**goes, tie: goal}, rest)
            if found is not None:
                return found
    return None


def fits(one, other, goes, tie, goal):
    """Whether a tie can go to this goal if some others go as told."""
    whole = {**goes, tie: goal}
    if any([one.lengths[tie, by] != other.lengths[goal, end] for by, end in whole.items()]):
        return False
    closed = [circle for circle in one.circles if tie in circle and all([by in whole for by in circle])]
    return all([tuple(sorted([whole[by] for by in circle])) in other.circles for circle in closed])
