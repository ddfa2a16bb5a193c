"""Small rows of a table: what the ties of a web have in its flows, told from least points."""

from flowtells.bases import by_first_basis, made_of, sum_of_products, unit_points
from flowtells.classes import least_ends
from flowtells.contraries import told_way
from flowtells.determinants import first_not_nought
from flowtells.short_bases import ShortBasis
from flowtells.tables import need_table


def small_rows(table):
    """All small rows of a table, ascending."""
    need_table(table, "table")
    short = ShortBasis(table.rows)
    return tuple(sorted([row_by(short, values) for values in small_at(least_ends(short.left))]))


def row_by(short, values):
    """The row that has these values at the points of a short basis, told as rows are."""
    return told_way(made_of(short.back, values))


def small_at(classes):
    """All rows but noughts, of each and its contrary one, that are 0, 1 or -1 at the least points of these classes."""
    worth, units = units_by_least(classes)
    # At the contrary of a point a row is as small, so that half of the points are enough.
    points = [made_of(units, end) for _, ends in classes for end in ends]
    found = [[]]
    for group in by_last(points, len(units)):
        found = [more for values in found for more in longer_values(values) if is_small(more, group, worth)]
    # The first one is 0 everywhere.
    rows = [[sum_of_products(unit, values) for unit in units] for values in found[1:]]
    return [[number // worth for number in row] for row in rows if not any([number % worth for number in row])]


def units_by_least(classes):
    """A number above 0, and each unit point, so many times, as a sum of independent least points, each so often."""
    size = len(classes).bit_length()
    units = unit_points(size)
    # In a short basis they are nearly always least themselves.
    if all([tuple(unit) in classes[(1 << at) - 1][1] for at, unit in enumerate(units)]):
        return 1, units
    shortest = [ends[0] for _, ends in sorted(classes)]
    _, worth, told = by_first_basis(shortest + units)
    sign = 1 if worth > 0 else -1
    return sign * worth, [[sign * number for number in point] for point in told[len(shortest):]]


def by_last(points, size):
    """For each index the points whose last integer other than 0 stands there, up to it."""
    groups = [[] for _ in range(size)]
    for point in points:
        last = size - 1 - first_not_nought(point[::-1])
        groups[last].append(point[:last + 1])
    return groups


def longer_values(values):
    """The values with one more, 0, 1 or -1, such that the first one other than 0 is 1."""
    return [values + [more] for more in ((0, 1, -1) if any(values) else (0, 1))]


def is_small(values, points, worth):
    """Whether the sum of values, each as often as a point tells, is no more than worth, nor less than its contrary."""
    for point in points:
        if abs(sum_of_products(point, values)) > worth:
            return False
    return True
