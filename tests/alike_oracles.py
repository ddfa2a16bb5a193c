"""What is alike, by trial of all ways: webs whose rounds are, and tables that are one in some basis."""

from fractions import Fraction
from itertools import permutations, product

from flowtells.webs import Web
from tests.oracles import all_rounds, determinant, is_joined
from tests.table_oracles import back, meets, wide


def is_bridge(web, tie):
    """Whether one cannot come from each place to each other one without this tie."""
    return not is_joined(web.places, [pair for at, pair in enumerate(web.ties) if at != tie])


def others(web):
    """The ties of a web other than bridges."""
    return [tie for tie in range(len(web.ties)) if not is_bridge(web, tie)]


def goes_over(one, other, ties):
    """Whether ties, told for each tie of one web, put its rounds to those of the other, by the words of the document."""
    mine, theirs = others(one), others(other)
    if len(ties) != len(one.ties) or any((tie in mine) != (end != -1) for tie, end in enumerate(ties)):
        return False
    if sorted(end for end in ties if end != -1) != theirs:
        return False
    return sorted(tuple(sorted(ties[tie] for tie in circle)) for circle in all_rounds(one)) == list(all_rounds(other))


def are_alike(one, other):
    """Whether two webs are alike: all ways to put the ties of the one to those of the other are tried."""
    mine, theirs = others(one), others(other)
    if len(mine) != len(theirs):
        return False
    here, there = [[mine.index(tie) for tie in circle] for circle in all_rounds(one)], set(all_rounds(other))
    if len(here) != len(there):
        return False
    for order in permutations(theirs):
        if all(tuple(sorted(order[at] for at in circle)) in there for circle in here):
            return True
    return False


def shuffled(source, web):
    """The web with places and ties numbered anew, each tie told from either end."""
    places = list(range(web.places))
    source.shuffle(places)
    ties = [tuple(places[end] for end in source.sample(pair, 2)) for pair in web.ties]
    source.shuffle(ties)
    return Web(web.places, ties)


def points_of_length(rows, length):
    """All points of a table that have this length."""
    turned, worth = back(rows), determinant(rows)
    ranges = []
    for at in range(len(rows)):
        # No integer of a point is, squared, more than the point's length times this fraction.
        most = wide(Fraction(length * turned[at][at], worth))
        ranges.append(range(-most, most + 1))
    return [point for point in product(*ranges) if meets(rows, point, point) == length]


def are_one(one, other):
    """Whether two tables are one in some basis: points of the one are tried that share as the other tells."""
    if len(one) != len(other):
        return False
    ways = [[]]
    for at, row in enumerate(other):
        fit = points_of_length(one, row[at])
        ways = [some + [point] for some in ways for point in fit
                if all(meets(one, point, by) == number for by, number in zip(some, row))]
    return any(abs(determinant(points)) == 1 for points in ways)


# Tables of one determinant whose classes have the same lengths, and that are no one table.
TWINS = [
    (((5, 2, -2, 1, 2), (2, 5, 0, 0, 3), (-2, 0, 5, -1, 1), (1, 0, -1, 4, 1), (2, 3, 1, 1, 3)),
     ((4, 3, 0, 2, 1), (3, 4, 0, 2, 2), (0, 0, 5, -2, -2), (2, 2, -2, 3, 1), (1, 2, -2, 1, 5))),
    (((5, 1, 0, -3, 0), (1, 4, 2, -1, 2), (0, 2, 3, -1, 0), (-3, -1, -1, 4, 1), (0, 2, 0, 1, 5)),
     ((4, 1, -1, 2, 1), (1, 4, 0, -1, 2), (-1, 0, 4, -1, -1), (2, -1, -1, 3, 0), (1, 2, -1, 0, 4))),
    (((3, 0, 0, 0, -1), (0, 4, 2, -1, 1), (0, 2, 4, -1, -1), (0, -1, -1, 3, 0), (-1, 1, -1, 0, 5)),
     ((4, -3, 0, 1, 0), (-3, 5, 0, -2, 0), (0, 0, 3, 0, -2), (1, -2, 0, 4, -1), (0, 0, -2, -1, 5))),
    (((4, -1, -1, 0, 2), (-1, 4, -1, 1, 0), (-1, -1, 3, -3, -1), (0, 1, -3, 5, 2), (2, 0, -1, 2, 5)),
     ((5, 2, -3, 2, 1), (2, 5, -1, 1, -1), (-3, -1, 6, -2, 1), (2, 1, -2, 2, 0), (1, -1, 1, 0, 3))),
    (((3, 2, -1, -1, 0), (2, 4, 0, 0, 1), (-1, 0, 6, 2, 2), (-1, 0, 2, 4, 2), (0, 1, 2, 2, 4)),
     ((4, 0, 0, 0, 3), (0, 4, -2, -3, -1), (0, -2, 6, 1, -1), (0, -3, 1, 5, 2), (3, -1, -1, 2, 5))),
    (((3, 1, 0, -1, 0), (1, 4, -1, -4, 3), (0, -1, 4, 2, 1), (-1, -4, 2, 6, -3), (0, 3, 1, -3, 5)),
     ((3, -2, -1, -2, 1), (-2, 3, 3, 2, 0), (-1, 3, 6, 1, 0), (-2, 2, 1, 5, 1), (1, 0, 0, 1, 4))),
]
