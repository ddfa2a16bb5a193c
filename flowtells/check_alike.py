"""The checks of papers that tell whether webs are alike, and whether tables are one in some basis."""

from flowtells.alike import Alike, Unlike, alike
from flowtells.checks import are_integers
from flowtells.determinants import determinant_of
from flowtells.same import Same, Unsame, same
from flowtells.tables import are_points, need_table
from flowtells.webs import bridges, need_web, rounds


def shows_alike(one, other, value):
    """Whether a value is an Alike of ties to which those of the one can go, or an Unlike of webs that are not alike."""
    need_web(one, "one")
    need_web(other, "other")
    if type(value) is Unlike:
        return not alike(one, other)
    return type(value) is Alike and are_ends(one, other, value.ties) and rounds_go(one, other, value.ties)


def are_ends(one, other, ties):
    """Whether what a paper keeps is -1 for each bridge of the one, a tie other than bridges for the rest, each once."""
    if not are_integers(ties) or len(ties) != len(one.ties):
        return False
    if tuple([tie for tie, end in enumerate(ties) if end == -1]) != bridges(one):
        return False
    left_out = bridges(other)
    return sorted([end for end in ties if end != -1]) == [tie for tie in range(len(other.ties)) if tie not in left_out]


def rounds_go(one, other, ties):
    """Whether the rounds of the one go to those of the other one, each to one, if ties go as told."""
    return sorted([tuple(sorted([ties[tie] for tie in circle])) for circle in rounds(one)]) == list(rounds(other))


def shows_same(one, other, value):
    """Whether a value is a Same of points by which the one table is the other, or an Unsame if there are none."""
    need_table(one, "one")
    need_table(other, "other")
    if type(value) is Unsame:
        return not same(one, other)
    if type(value) is not Same or not are_points(value.points, one.size):
        return False
    return determinant_of(value.points) in (1, -1) and one.changed(value.points).rows == other.rows
