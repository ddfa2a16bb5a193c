"""Webs to draw, webs of sides, and K5 and K33 in webs, by trial and straight from the words of the document."""

from itertools import combinations, product

from flowtells.webs import Web
from tests.oracles import all_bonds, all_rounds, is_joined, reached

FIVES, SIXES = list(combinations(range(5), 2)), list(product(range(3), range(3, 6)))


def is_loop(web, tie):
    """Whether both ends of a tie are one place."""
    return web.ties[tie][0] == web.ties[tie][1]


def are_sides(web, sides, ties):
    """Whether a web is a web of sides of another one, by the ties that go with each other."""
    if len(ties) != len(web.ties) or any((end == -1) != is_loop(web, tie) for tie, end in enumerate(ties)):
        return False
    if sorted(end for end in ties if end != -1) != list(range(len(sides.ties))):
        return False
    return sorted(tuple(sorted(ties[tie] for tie in bond)) for bond in all_bonds(web)) == list(all_rounds(sides))


def stands_so(web, struck, drawn, names):
    """Whether ties that are struck and drawn, and names, show K5 or K33 in a web."""
    every = list(range(len(web.ties)))
    if any(some != sorted(set(some)) or not set(some) <= set(every) for some in (struck, drawn)) or set(struck) & set(drawn):
        return False
    pairs = [web.ties[tie] for tie in drawn]
    # No round is among ties exactly if one cannot come from one end of any to the other end by the others.
    if any(pair[1] in reached(pair[0], pairs[:at] + pairs[at + 1:]) for at, pair in enumerate(pairs)):
        return False
    if len(names) != web.places:
        return False
    if any((names[one] == names[other]) != (other in reached(one, pairs))
           for one, other in product(range(web.places), repeat=2)):
        return False
    left = sorted(tuple(sorted(names[end] for end in web.ties[tie])) for tie in every if tie not in list(struck) + list(drawn))
    return (left, set(names)) in ((FIVES, set(range(5))), (SIXES, set(range(6))))


def lies_flat(web):
    """Whether there is neither K5 nor K33 in a web of six places at most, by trial of all ways."""
    tied = {frozenset(pair) for pair in web.ties if pair[0] != pair[1]}
    if web.places < 5:
        return True
    if web.places == 5:
        return len(tied) < 10
    for first in combinations(range(6), 3):
        if all(frozenset(pair) in tied for pair in product(first, set(range(6)) - set(first))):
            return False
    for one, other in map(sorted, tied):
        drawn = {frozenset(one if end == other else end for end in pair) for pair in tied}
        if len([pair for pair in drawn if len(pair) == 2]) == 10:
            return False
    return True


def with_place_in(web, tie):
    """The web in which a tie is parted by a new place, if ties and places may be more."""
    (one, other), new = web.ties[tie], web.places
    return Web(new + 1, list(web.ties[:tie]) + [(one, new)] + list(web.ties[tie + 1:]) + [(new, other)])


def without(web, struck):
    """The web without some ties, None if it falls apart."""
    ties = [pair for tie, pair in enumerate(web.ties) if tie not in struck]
    return Web(web.places, ties) if is_joined(web.places, ties) else None
