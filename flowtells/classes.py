"""Classes of points, and the least points of each."""

from flowtells.bases import layers_of, made_of, short_basis
from flowtells.tables import need_table, shared


def least(table):
    """For each class the class, the length of its least points, and all of these."""
    need_table(table, "table")
    rows, points = short_basis(table.rows)
    layers = layers_of(rows)
    found = []
    for kind in kinds_of(table.size):
        length, ends = least_behind(layers, kind, ())
        told = sorted([made_of(points, end) for end in ends])
        found.append((kind_of(told[0]), length, tuple(told)))
    return tuple(sorted(found))


def kinds_of(size):
    """All tuples of so many noughts and ones, not all 0, ascending: the classes, and the sorts."""
    places = list(reversed(range(size)))
    return [tuple([(number >> place) & 1 for place in places]) for number in range(1, 1 << size)]


def kind_of(numbers):
    """For each integer 1 if it is odd, otherwise 0."""
    return tuple([number & 1 for number in numbers])


def least_behind(layers, kind, end):
    """Of the points of a class of which the last integers are known, the least length, and those that have it."""
    at = len(kind) - len(end) - 1
    if at < 0:
        return shared(layers[0], end, end), [end]
    layer = layers[at]
    scale = layers[at - 1][0][0] if at > 0 else 1
    below = last_below(layer, kind[at], end)
    length, found = None, []
    # Away from where the points are shortest they grow, so each way ends at the first that is too long.
    for number, step in ((below, -2), (below + 2, 2)):
        longer = (number,) + end
        while length is None or shared(layer, longer, longer) <= length * scale:
            least_here, points = least_behind(layers, kind, longer)
            if length is None or least_here < length:
                length, found = least_here, []
            if least_here == length:
                found.extend(points)
            longer = (longer[0] + step,) + end
    return length, found


def last_below(layer, odd, end):
    """The last integer, odd or even as told, not above the fraction at which a point with this end is shortest."""
    slope = sum([number * by for number, by in zip(layer[0][1:], end)])
    return odd + 2 * ((-slope - odd * layer[0][0]) // (2 * layer[0][0]))
