"""What least points tell: which of them are alone, as flows once round one round are, and the numbers of sorts."""

from math import gcd

from flowtells.bases import made_of
from flowtells.classes import kind_of, kinds_of, least_ends
from flowtells.contraries import told_way
from flowtells.short_bases import ShortBasis
from flowtells.tables import need_table


def alone(table):
    """All points that are alone, of each and its contrary one, shorter ones first."""
    need_table(table, "table")
    short = ShortBasis(table.rows)
    ends = [(length, points[0]) for length, points in least_ends(short.left) if len(points) == 1]
    found = sorted([(length, told_way(made_of(short.points, end))) for length, end in ends])
    return tuple([point for _, point in found])


def numbers(table):
    """For each sort whose number is not 0 the sort, and top and bottom of its number."""
    need_table(table, "table")
    short = ShortBasis(table.rows)
    classes = sorted([(kind_of(made_of(short.points, ends[0])), length) for length, ends in least_ends(short.left)])
    bottom, found = 1 << (table.size - 1), []
    for sort, top in zip(kinds_of(table.size), all_tops([length for _, length in classes])):
        if top != 0:
            common = gcd(top, bottom)
            found.append((sort, top // common, bottom // common))
    return tuple(found)


def all_tops(lengths):
    """For each sort the lengths of the classes that it meets oddly, less the lengths of all others.

    Sorts and classes stand where the number tells whose bits they are, from 1 on.
    """
    return [-total for total in weighed([0] + lengths)[1:]]


def weighed(lengths):
    """For each number the lengths, those taken off whose number has oddly many bits in common with it."""
    if len(lengths) == 1:
        return lengths
    # Half of the numbers do not have the highest bit, the others do.
    half = len(lengths) // 2
    low, high = weighed(lengths[:half]), weighed(lengths[half:])
    return [one + other for one, other in zip(low, high)] + [one - other for one, other in zip(low, high)]
