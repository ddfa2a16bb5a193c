"""The check of papers that tell whether a web lies in the plane."""

from flowtells.check_unwebbed import are_names, are_numbers
from flowtells.checks import are_integers
from flowtells.joins import names_of
from flowtells.plane import NotPlane, Plane, need_few_places
from flowtells.webs import Web, bonds, rounds


def shows_plane(web, value):
    """Whether a value is a Plane of a web of sides, or a NotPlane of K5 or K33 in the web."""
    need_few_places(web)
    if type(value) is Plane:
        return isinstance(value.sides, Web) and are_sides(web, value.sides, value.ties)
    if type(value) is not NotPlane:
        return False
    return are_parted(web, value.struck, value.drawn) and are_called(web, value)


def are_sides(web, sides, ties):
    """Whether a web is a web of sides of another one, whose ties go with what a paper keeps."""
    if not are_integers(ties) or [end == -1 for end in ties] != [one == other for one, other in web.ties]:
        return False
    if sorted([end for end in ties if end != -1]) != list(range(len(sides.ties))):
        return False
    return sorted([tuple(sorted([ties[tie] for tie in bond])) for bond in bonds(web)]) == list(rounds(sides))


def are_parted(web, struck, drawn):
    """Whether what a paper keeps are two lists of ties, ascending, none in both, and no round is in the second one."""
    if not are_numbers(struck, len(web.ties)) or not are_numbers(drawn, len(web.ties)):
        return False
    if any([tie in struck for tie in drawn]):
        return False
    # Each tie that is drawn makes one place less, unless it closes a round.
    return len(set(merged_places(web, drawn))) == web.places - len(drawn)


def merged_places(web, drawn):
    """The names of places when those along these ties are made one."""
    return names_of(web.places, [web.ties[tie] for tie in drawn])


def are_called(web, paper):
    """Whether the names of places that a paper keeps are those of K5 or K33, made by its ties that are left."""
    names = paper.names
    if not are_integers(names) or len(names) != web.places:
        return False
    merged = merged_places(web, paper.drawn)
    spots = range(web.places)
    if any([(names[one] == names[other]) != (merged[one] == merged[other]) for one in spots for other in spots]):
        return False
    left = [pair for tie, pair in enumerate(web.ties) if tie not in paper.struck and tie not in paper.drawn]
    ends = [(min(names[one], names[other]), max(names[one], names[other])) for one, other in left]
    return are_names(tuple(ends), len(ends)) and sorted(set(names)) == list(range(1 + max([high for _, high in ends])))
