"""Webs of places and ties, and their rounds, bonds and bridges."""

from flowtells.checks import are_integers, is_within
from flowtells.errors import BadText, BadWeb
from flowtells.joins import names_of
from flowtells.papers import fixed
from flowtells.texts import items_of, number_at, read_colon, read_end

MOST_PLACES = 13
MOST_TIES = 12


class Web:
    """A web: how many places, and for each tie the pair of its ends."""

    def __init__(self, places, ties):
        if not is_within(places, 1, MOST_PLACES):
            raise BadWeb("places")
        if not are_ties(places, ties):
            raise BadWeb("ties")
        if not hang_together(places, ties):
            raise BadWeb("apart")
        self.places = places
        self.ties = fixed(ties)

    def __eq__(self, other):
        if not isinstance(other, Web):
            return False
        return type(self) is type(other) and self.places == other.places and self.ties == other.ties

    def __str__(self):
        return " ".join([str(self.places), ":"] + [str(end) for pair in self.ties for end in pair])

    @staticmethod
    def read(text):
        """The web whose text this is."""
        items = items_of(text)
        places = number_at(items, 0, 1, MOST_PLACES)
        read_colon(items, 1)
        behind = 2 + 2 * MOST_TIES
        ends = [number_at(items, index, 0, places - 1) for index in range(2, min(len(items), behind))]
        read_end(items, behind)
        if len(ends) & 1:
            raise BadText(0, len(items))
        try:
            return Web(places, list(zip(ends[::2], ends[1::2])))
        except BadWeb:
            raise BadText(0, len(items) - 1) from None


def are_ties(places, value):
    """Whether a value is a list of at most 12 pairs of so many places."""
    if not isinstance(value, (list, tuple)) or len(value) > MOST_TIES:
        return False
    return all([is_pair(places, pair) for pair in value])


def is_pair(places, value):
    """Whether a value is a pair of so many places."""
    if not are_integers(value) or len(value) != 2:
        return False
    return all([is_within(end, 0, places - 1) for end in value])


def hang_together(places, ties):
    """Whether one can come from each place to each other one along ties."""
    return not any(names_of(places, ties))


def need_web(value, part):
    """Refuse, by the name of a parameter, what is no web."""
    if not isinstance(value, Web):
        raise BadWeb(part)


def rounds(web):
    """All rounds, ascending."""
    need_web(web, "web")
    steps = steps_from(web)
    found = []
    for tie in range(len(web.ties)):
        found.extend(rounds_from(web, steps, tie))
    return tuple(sorted(found))


def steps_from(web):
    """For each place the pairs of a tie that touches it and of the place to which this tie leads."""
    steps = [[] for _ in range(web.places)]
    for tie, (one, other) in enumerate(web.ties):
        steps[one].append((tie, other))
        steps[other].append((tie, one))
    return steps


def rounds_from(web, steps, tie):
    """The rounds in which no tie comes ahead of this one."""
    goal, start = web.ties[tie]
    found = []
    ways = [(start, 1 << start, (tie,))]
    while ways:
        place, been, gone = ways.pop()
        if place == goal:
            found.append(tuple(sorted(gone)))
            continue
        for step, end in steps[place]:
            if step > tie and not been >> end & 1:
                ways.append((end, been | 1 << end, gone + (step,)))
    return found


def bonds(web):
    """All bonds, ascending."""
    need_web(web, "web")
    near = near_places(web)
    every = (1 << web.places) - 1
    # A bond lies between two sides that hang together; odd numbers are the sides with place 0.
    sides = [side for side in range(1, every, 2) if is_whole(side, near) and is_whole(every - side, near)]
    return tuple(sorted([ties_between(web, side) for side in sides]))


def near_places(web):
    """For each place the places to which a tie leads from it, as the bits of a number."""
    near = [0] * web.places
    for one, other in web.ties:
        near[one] |= 1 << other
        near[other] |= 1 << one
    return near


def is_whole(side, near):
    """Whether the places that are the bits of a number hang together without the others."""
    grown, fresh = 0, side & -side
    while fresh:
        place = fresh.bit_length() - 1
        grown |= 1 << place
        fresh = (fresh | near[place]) & side & ~grown
    return grown == side


def ties_between(web, side):
    """The ties of which just one end is among the places that are the bits of a number."""
    return tuple([tie for tie, (one, other) in enumerate(web.ties) if (side >> one ^ side >> other) & 1])


def bridges(web):
    """All bridges, ascending."""
    need_web(web, "web")
    return tuple([tie for tie in range(len(web.ties)) if is_bridge(web, tie)])


def is_bridge(web, tie):
    """Whether one cannot come from one end of a tie to the other one without it."""
    one, other = web.ties[tie]
    names = names_of(web.places, web.ties[:tie] + web.ties[tie + 1:])
    return names[one] != names[other]
