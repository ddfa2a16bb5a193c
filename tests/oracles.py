"""Webs to ask about, and answers found in another way: by trying all, straight from the words of the document."""

import random
from itertools import combinations, permutations

from flowtells.webs import Web


def ring(many):
    """The web of so many ties in one round."""
    return Web(many, [(at, (at + 1) % many) for at in range(many)])


def bundle(many):
    """The web of so many ties between two places."""
    return Web(2, [(at % 2, 1 - at % 2) for at in range(many)])


def full(many):
    """The web with a tie between each two of so many places."""
    return Web(many, list(combinations(range(many), 2)))


HAND_MADE = [
    Web(1, []),
    Web(1, [(0, 0)]),
    Web(1, [(0, 0)] * 3),
    Web(2, [(0, 1)]),
    Web(2, [(1, 0), (1, 1)]),
    Web(3, [(2, 1), (1, 0)]),
    Web(3, [(0, 1), (1, 0), (1, 2), (2, 1)]),
    Web(4, [(0, 1), (0, 2), (2, 1), (0, 3), (3, 1)]),
    Web(5, [(0, 1), (1, 2), (2, 0), (2, 3), (3, 4), (4, 3), (3, 3)]),
    Web(4, [(0, 1), (0, 1), (0, 2), (0, 2), (0, 3), (0, 3)]),
    Web(4, [(0, 1), (1, 0), (1, 2), (1, 2), (2, 3), (2, 3)]),
    Web(5, [(0, 1), (1, 2), (2, 0), (0, 3), (3, 4), (4, 0)]),
    Web(6, [(0, 1), (1, 2), (2, 0), (2, 3), (3, 4), (4, 5), (5, 3)]),
    Web(2, [(0, 0), (0, 1), (1, 1), (0, 1), (0, 0)]),
    ring(2), ring(3), ring(7), bundle(3), bundle(6), full(4),
]
LARGE = [
    Web(13, [(0, at) for at in range(1, 13)]),
    Web(13, [(12, at) for at in range(12)]),
    Web(13, [(at, at + 1) for at in range(12)]),
    Web(1, [(0, 0)] * 12),
    ring(12),
    bundle(12),
    Web(7, [(one, other) for one in range(3) for other in range(3, 7)]),
    Web(4, [(0, 1), (1, 2), (2, 3), (3, 0)] * 3),
    Web(6, [(at, (at + 1) % 6) for at in range(6)] * 2),
    Web(4, list(combinations(range(4), 2)) * 2),
    Web(5, list(combinations(range(5), 2)) + [(1, 0), (4, 4)]),
]


def random_web(source, most_places, most_ties):
    """A web of so many places and ties at most, in no order."""
    places = source.randint(1, most_places)
    ties = [(source.randrange(at), at) for at in range(1, places)]
    for _ in range(source.randint(0, most_ties - len(ties))):
        ties.append((source.randrange(places), source.randrange(places)))
    source.shuffle(ties)
    names = list(range(places))
    source.shuffle(names)
    return Web(places, [tuple(names[end] for end in source.sample(tie, 2)) for tie in ties])


def random_webs(seed, many, most_places=6, most_ties=9):
    """Some webs, the same ones for the same seed."""
    source = random.Random(seed)
    return [random_web(source, most_places, most_ties) for _ in range(many)]


def reached(start, ties):
    """The places to which one can come from a place along these pairs."""
    found, grown = {start}, True
    while grown:
        more = {end for tie in ties if set(tie) & found for end in tie}
        grown = not more <= found
        found |= more
    return found


def is_joined(places, ties):
    """Whether one can come from each place to each other one along these pairs."""
    return reached(0, ties) == set(range(places))


def subsets(web):
    """All tuples of one tie or more, each ascending."""
    every = range(len(web.ties))
    return [chosen for many in range(1, len(web.ties) + 1) for chosen in combinations(every, many)]


def is_round(web, chosen):
    """Whether these ties hang together, and one comes to each place that they touch by just two ends."""
    pairs = [web.ties[tie] for tie in chosen]
    ends = [end for pair in pairs for end in pair]
    return all(ends.count(end) == 2 for end in ends) and reached(ends[0], pairs) == set(ends)


def is_bond(web, chosen):
    """Whether, these ties struck, the web falls apart, but not if any one of them stays."""
    def holds(struck):
        return is_joined(web.places, [pair for tie, pair in enumerate(web.ties) if tie not in struck])
    return not holds(chosen) and all(holds([tie for tie in chosen if tie != stays]) for stays in chosen)


def all_rounds(web):
    """All rounds, ascending."""
    return tuple(sorted(chosen for chosen in subsets(web) if is_round(web, chosen)))


def all_bonds(web):
    """All bonds, ascending."""
    return tuple(sorted(chosen for chosen in subsets(web) if is_bond(web, chosen)))


def all_trees(web):
    """All trees, ascending: as many ties as it needs, one less than places, by which all hang together."""
    every = combinations(range(len(web.ties)), web.places - 1)
    return [chosen for chosen in every if is_joined(web.places, [web.ties[tie] for tie in chosen])]


def flows_in(web, numbers):
    """Whether at each place as much comes in as goes out."""
    ins = [sum(number for (_, end), number in zip(web.ties, numbers) if end == place) for place in range(web.places)]
    outs = [sum(number for (end, _), number in zip(web.ties, numbers) if end == place) for place in range(web.places)]
    return ins == outs


def determinant(rows):
    """The determinant as the sum over all orders of the columns."""
    total = 0
    for order in permutations(range(len(rows))):
        worth = 1
        for at, by in enumerate(order):
            worth *= rows[at][by] * (-1) ** sum(before > by for before in order[:at])
        total += worth
    return total
