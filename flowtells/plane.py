"""Whether a web lies in the plane: a web of sides, or K5 or K33 in it."""

from flowtells.contraries import told_way
from flowtells.errors import TooMany
from flowtells.joins import names_of
from flowtells.lot_webs import web_of
from flowtells.lots import Lot
from flowtells.papers import Denial, Paper
from flowtells.pulls import pull_basis
from flowtells.unwebbed import shown_in
from flowtells.webs import Web, need_web

MOST_DRAWN = 6


class Plane(Paper):
    """A web of sides, and for each tie of a web the tie of it that goes with this one, -1 for a loop."""

    def __init__(self, sides, ties):
        super().__init__("plane", sides, ties)
        self.sides = self.parts[0]
        self.ties = self.parts[1]


class NotPlane(Denial):
    """K5 or K33 in a web: the ties that are struck, those that are drawn, and what each place is called then."""

    def __init__(self, struck, drawn, names):
        super().__init__("notplane", struck, drawn, names)
        self.struck = self.parts[0]
        self.drawn = self.parts[1]
        self.names = self.parts[2]


def plane(web):
    """The Plane of a web that lies in the plane, the NotPlane of another one."""
    need_few_places(web)
    groups = ties_by_row(web)
    if not groups:
        return Plane(Web(1, []), [-1] * len(web.ties))
    rows = sorted(groups)
    some, ties = Lot(rows, [len(groups[row]) for row in rows]), [groups[row] for row in rows]
    sides = web_of(some)
    return not_plane(web, ties, shown_in(some)) if sides is None else with_sides(web, ties, sides)


def need_few_places(web):
    """Refuse what is no web, or one of too many places."""
    need_web(web, "web")
    if web.places > MOST_DRAWN:
        raise TooMany("places", MOST_DRAWN)


def ties_by_row(web):
    """For each row that ties other than loops have in the pull basis, told as rows are, these ties."""
    found, basis = {}, pull_basis(web)
    for tie, row in enumerate(zip(*basis)):
        if any(row):
            found.setdefault(told_way(row), []).append(tie)
    return found


def with_sides(web, groups, sides):
    """The Plane by the web that is told for the pulls of a web: each of its ties stands for a group of ties."""
    places, ties, goes = sides.places, [], {}
    for (one, other), group in zip(sides.ties, groups):
        # Ties beside one another go with ties in a row.
        stops = [one] + list(range(places, places + len(group) - 1)) + [other]
        places += len(group) - 1
        for at, tie in enumerate(group):
            goes[tie] = len(ties)
            ties.append((stops[at], stops[at + 1]))
    return Plane(Web(places, ties), [goes.get(tie, -1) for tie in range(len(web.ties))])


def not_plane(web, groups, shown):
    """The NotPlane by what shows K5 or K33 in the rows of the pulls of a web; each row stands for a group of ties."""
    stays, drawn = [groups[number][0] for number in shown.kept], [groups[number][0] for number in shown.idle]
    struck = [tie for tie in range(len(web.ties)) if tie not in stays and tie not in drawn]
    merged = names_of(web.places, [web.ties[tie] for tie in drawn])
    touching = {}
    for tie, pair in zip(stays, shown.names):
        for end in web.ties[tie]:
            touching.setdefault(merged[end], []).append(pair)
    # The ties at one place have its name in common, and no other one.
    called = {place: common(pairs) for place, pairs in touching.items()}
    return NotPlane(struck, sorted(drawn), [called[place] for place in merged])


def common(pairs):
    """The number that all of these pairs have."""
    first, second = pairs[0]
    return first if all([first in pair for pair in pairs]) else second
