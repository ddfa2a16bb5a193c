"""What least points tell: which of them are alone, as flows once round one round are, and the numbers of sorts."""

from math import gcd

from flowtells.classes import kinds_of, least


def alone(table):
    """All points that are alone, of each and its contrary one, shorter ones first."""
    # Of two tuples that are contraries the one whose first integer other than 0 is above 0 is the later one.
    found = [(length, points[1]) for _, length, points in least(table) if len(points) == 2]
    return tuple([point for _, point in sorted(found)])


def numbers(table):
    """For each sort whose number is not 0 the sort, and top and bottom of its number."""
    told = [(sort, top, bottom, gcd(top, bottom)) for sort, top, bottom in all_numbers(least(table)) if top != 0]
    return tuple([(sort, top // common, bottom // common) for sort, top, bottom, common in told])


def all_numbers(classes):
    """For each sort, ascending, the sort, and top and bottom of its number, by the least points of all classes."""
    size = len(classes[0][0])
    found = []
    for sort in kinds_of(size):
        top = sum([length if meet_oddly(sort, kind) else -length for kind, length, _ in classes])
        found.append((sort, top, 1 << (size - 1)))
    return found


def meet_oddly(sort, kind):
    """Whether a sort and a class have 1 at oddly many indices in common."""
    return sum([one & other for one, other in zip(sort, kind)]) & 1 == 1
