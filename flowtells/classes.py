"""Classes of points, and the least points of each."""

from math import isqrt

from flowtells.bases import nearest, sum_of_products
from flowtells.short_bases import ShortBasis
from flowtells.tables import need_table


def least(table):
    """For each class the class, the length of its least points, and all of these."""
    need_table(table, "table")
    short = ShortBasis(table.rows)
    columns = list(zip(*short.points))
    found = []
    for length, ends in least_ends(short.left):
        half = [tuple([sum_of_products(column, end) for column in columns]) for end in ends]
        whole = half + [tuple([-number for number in point]) for point in half]
        found.append((kind_of(half[0]), length, tuple(sorted(whole))))
    return tuple(sorted(found))


def kinds_of(size):
    """All tuples of so many noughts and ones, not all 0, ascending: the classes, and the sorts."""
    places = list(reversed(range(size)))
    return [tuple([(number >> place) & 1 for place in places]) for number in range(1, 1 << size)]


def kind_of(numbers):
    """For each integer 1 if it is odd, otherwise 0."""
    return tuple([number & 1 for number in numbers])


def least_ends(left):
    """For each class, told by a short basis, its length and half of its least points: of each and its contrary one.

    The class stands where its number tells: bit i of one more than the index is 1 if its points are odd at i.

    The points are put together from behind. Of an end are told its integers; how long it is where, by fractions, the
    integers ahead are chosen such that it is shortest, times a scale; and of its class the bits that are known.
    """
    size = len(left)
    ends = [((), 0, 0)]
    for at in reversed(range(size)):
        line = [left[by][at] for by in range(at, size)]
        scale = left[at - 1][at - 1] if at > 0 else 1
        sloped = [(end, sum_of_products(line[1:], end[0])) for end in ends]
        bounds = bounds_at(line[0], scale, sloped, slack_at(left, at, scale))
        ends = [more for end, slope in sloped for more in longer_ends(line[0], scale, slope, bounds, end)]
    found = [(0, [])] * (1 << size)
    # Of each class only least points are left.
    for point, length, number in ends:
        found[number] = (length, found[number][1] + [point])
    return found[1:]


def slack_at(left, at, scale):
    """How much longer than the shortest end of a class another one with least points can be, times a scale."""
    # Each integer ahead can be chosen such that it adds no more than this.
    before = [1] + [left[by][by] for by in range(at)]
    return sum([-(-scale * before[by + 1] // before[by]) for by in range(at)])


def bounds_at(first, scale, sloped, slack):
    """For each class, by the bits that are known with one integer more, how long its ends may be."""
    bounds = {}
    for (_, spent, number), slope in sloped:
        for odd in (0, 1):
            along = first * (odd + 2 * nearest(-slope - odd * first, 2 * first)) + slope
            length, known = (scale * spent + along * along) // first + slack, 2 * number + odd
            bounds[known] = min(length, bounds.get(known, length))
    return bounds


def longer_ends(first, scale, slope, bounds, end):
    """The ways to put one integer more ahead of an end such that points with this end can still be least."""
    point, spent, number = end
    found = []
    for odd in (0, 1):
        room = first * bounds[2 * number + odd] - scale * spent
        if room >= 0:
            reach = isqrt(room)
            low, high = -((reach + slope) // first), (reach - slope) // first
            # Of a point and its contrary the one is asked for whose last integer other than 0 is above 0.
            if not any(point):
                low = max(low, 0)
            for new in range(low + ((low ^ odd) & 1), high + 1, 2):
                along = first * new + slope
                found.append(((new,) + point, (scale * spent + along * along) // first, 2 * number + odd))
    return found
