"""Pieces of a web, parting places, ties in a row and ties beside one another."""

from flowtells.joins import names_in
from flowtells.webs import bridges, need_web, rounds


def pieces(web):
    """All pieces, each an ascending tuple of ties, ascending."""
    need_web(web, "web")
    return together(list(enumerate(piece_names(web))))


def piece_names(web):
    """For each tie the first tie of its piece."""
    # Pieces need no more than this: ties that share rounds with one tie share a round.
    return names_in(len(web.ties), rounds(web))


def together(marks):
    """Of pairs of a tie and its mark, the ties of one mark in one tuple; all of these, ascending."""
    groups = {}
    for tie, mark in marks:
        groups.setdefault(mark, []).append(tie)
    return tuple(sorted([tuple(group) for group in groups.values()]))


def parting_places(web):
    """All places that ties of two pieces touch, ascending."""
    need_web(web, "web")
    names = piece_names(web)
    return tuple([place for place in range(web.places) if is_parting(web, names, place)])


def is_parting(web, names, place):
    """Whether ties of two pieces touch a place."""
    return len({names[tie] for tie, pair in enumerate(web.ties) if place in pair}) > 1


def in_a_row(web):
    """The ties other than bridges, those in a row in one tuple; all of these, ascending."""
    need_web(web, "web")
    circles, left_out = rounds(web), bridges(web)
    ties = [tie for tie in range(len(web.ties)) if tie not in left_out]
    return together([(tie, tuple([tie in circle for circle in circles])) for tie in ties])


def beside(web):
    """The ties other than loops, those beside one another in one tuple; all of these, ascending."""
    need_web(web, "web")
    pairs = [(tie, (min(pair), max(pair))) for tie, pair in enumerate(web.ties)]
    return together([(tie, pair) for tie, pair in pairs if pair[0] != pair[1]])
