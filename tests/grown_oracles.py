"""Webs that are told of lots and tables: which ones to ask about, and whether one bears a table, by the words alone."""

from itertools import combinations

from flowtells.lots import lot_of
from flowtells.webs import Web
from tests.oracles import HAND_MADE, bundle, determinant, flows_in, full, is_bond, is_joined, random_webs, ring
from tests.table_oracles import shared, told


def wheel(many):
    """The web of so many places in a ring, each tied to one place more."""
    return Web(many + 1, [(at, (at + 1) % many) for at in range(many)] + [(many, at) for at in range(many)])


def prism(many):
    """The web of two rings of so many places, each place of the one tied to one of the other."""
    ties = [(at, (at + 1) % many) for at in range(many)] + [(many + at, many + (at + 1) % many) for at in range(many)]
    return Web(2 * many, ties + [(at, many + at) for at in range(many)])


def hung(one, other):
    """Two webs, hung together at the last place of the one and the first one of the other."""
    by = one.places - 1
    return Web(one.places + other.places - 1, list(one.ties) + [(first + by, second + by) for first, second in other.ties])


# Webs of five flows, each with twelve ties no two of which are in a row.
CUBES = [
    prism(4),
    Web(8, [(at, (at + 1) % 8) for at in range(8)] + [(at, at + 4) for at in range(4)]),
    Web(8, [(0, 3), (0, 4), (0, 5), (1, 3), (1, 4), (1, 6), (2, 3), (2, 4), (2, 7), (5, 6), (6, 7), (5, 7)]),
    Web(8, [(at, (at + 1) % 8) for at in range(8)] + [(0, 2), (1, 5), (3, 6), (4, 7)]),
]
THREES = Web(6, [(one, other) for one in range(3) for other in range(3, 6)])
SHAPES = CUBES + HAND_MADE + [
    Web(1, [(0, 0)] * 2), Web(1, [(0, 0)] * 5), bundle(2), bundle(4), bundle(5), wheel(3), wheel(4), wheel(5), prism(3),
    THREES, full(4), hung(full(4), bundle(3)), hung(bundle(3), bundle(4)), hung(hung(ring(2), bundle(3)), wheel(1)),
    hung(prism(3), Web(1, [(0, 0)])), hung(Web(2, [(0, 1)]), hung(full(4), ring(4))), hung(ring(1), hung(ring(3), ring(5))),
    Web(4, [(0, 1), (1, 2), (2, 3), (3, 0)] * 2), Web(3, [(0, 1), (1, 2), (2, 0), (0, 1), (1, 2), (0, 0)]),
]


def shapes(seed, many):
    """Webs of one to five flows: those above, and some in no order."""
    webs = SHAPES + random_webs(seed, many, 7, 11) + random_webs(seed + 1, many, 4, 8)
    return [web for web in webs if 1 <= len(web.ties) - web.places + 1 <= 5 and lot_of(web).size > 0]


def bears(web, times, flows, rows):
    """Whether a web without bridges and ties in a row, these times and flows, bear a table of these rows."""
    every = range(len(web.ties))
    if len(times) != len(web.ties) or min(times, default=1) < 1:
        return False
    if not all(is_joined(web.places, [web.ties[tie] for tie in every if tie != struck]) for struck in every):
        return False
    # Two unlike ties are in a row exactly if both together are a bond.
    if any(is_bond(web, pair) for pair in combinations(every, 2)):
        return False
    if len(flows) != len(rows) or not are_basis(web, flows):
        return False
    products = [[sum(a * b * many for a, b, many in zip(one, other, times)) for other in flows] for one in flows]
    return products == [list(row) for row in rows]


def are_basis(web, flows):
    """Whether these are flows that are a basis: at the ties beside a tree they can have any integers, in one way."""
    if not all(len(flow) == len(web.ties) and flows_in(web, flow) for flow in flows):
        return False
    every = range(len(web.ties))
    trees = (some for some in combinations(every, web.places - 1) if is_joined(web.places, [web.ties[tie] for tie in some]))
    tree = next(trees)
    beside = [tie for tie in every if tie not in tree]
    return len(beside) == len(flows) and abs(determinant([[flow[tie] for tie in beside] for flow in flows])) == 1


def by_rows(columns):
    """For each tie, by what it has in some flows, its row, told as rows are, with the ties that have it."""
    found = {}
    for tie, column in enumerate(zip(*columns)):
        if any(column):
            found.setdefault(told(column), []).append(tie)
    return found


def retold(source, web, times, flows):
    """The same paper's parts told in another way: places and ties numbered anew, ties from other ends, flows contrary."""
    places, order = list(range(web.places)), list(range(len(web.ties)))
    source.shuffle(places)
    source.shuffle(order)
    signs = [source.choice((1, -1)) for _ in order]
    whole = source.choice((1, -1))
    ties = [tuple(places[end] for end in web.ties[tie][::sign]) for tie, sign in zip(order, signs)]
    told_flows = [tuple(whole * sign * flow[tie] for tie, sign in zip(order, signs)) for flow in flows]
    return Web(web.places, ties), tuple(times[tie] for tie in order), tuple(told_flows)


def dependent(rows, relation):
    """Whether rows, each times the integer that a relation tells, add up to noughts."""
    return all(shared(relation, column) == 0 for column in zip(*rows))
