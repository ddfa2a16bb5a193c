"""Bases: short ones of the points of a table, and what points are by those of a basis."""

from flowtells.determinants import beside_diagonal, cleared, determinant_of, first_not_nought


def unit_points(size):
    """The points with 1 at one index and 0 at all others."""
    return [[1 if at == by else 0 for by in range(size)] for at in range(size)]


def made_of(points, times):
    """The sum of points, each so many times."""
    return tuple([sum([by * number for by, number in zip(times, numbers)]) for numbers in zip(*points)])


def lessened(numbers, others, times):
    """Numbers, less so many times others."""
    return [number - times * other for number, other in zip(numbers, others)]


def nearest(top, bottom):
    """An integer that is nearest to top / bottom, bottom being above 0."""
    return (2 * top + bottom) // (2 * bottom)


def first_independent(points):
    """Of these points each one that is no sum, by fractions, of those ahead of it."""
    chosen, left, before = [], [(point, point) for point in points], 1
    while left:
        (point, top), *rest = left
        lead = first_not_nought(top)
        left = rest
        if lead is not None:
            chosen.append(point)
            left = [(other, cleared(row, top, lead, before)) for other, row in rest]
            before = top[lead]
    return chosen


def by_basis(basis, points):
    """For each point how often each one of a basis, whose determinant is 1 or -1, makes it up."""
    worth, turned_back = determinant_of(basis), beside_diagonal(basis)
    columns = list(zip(*turned_back))
    return [tuple([worth * sum_of_products(column, point) for column in columns]) for point in points]


def sum_of_products(one, other):
    """Two lists of as many integers, multiplied number by number and added up."""
    return sum([number * by for number, by in zip(one, other)])


def layers_of(rows):
    """The rows of a table, then what is left of them when its first point is taken out, the first two, and so on.

    A layer tells, for points of which the last integers alone are known, what they share when, by fractions, the
    first ones are chosen such that they are shortest; all times the first integer of the layer ahead.
    """
    layers, before = [rows], 1
    while len(layers[-1]) > 1:
        top, *rest = layers[-1]
        layers.append([cleared(row, top, 0, before) for row in rest])
        before = top[0]
    return layers


def short_basis(rows):
    """The rows of a table changed by a basis of short points, and these points.

    As Lenstra, Lenstra and Lovasz do it: in each layer the second point is moved ahead of the first one only
    if its length is less than three quarters of it, so that few steps are taken.
    """
    rows, points = [list(row) for row in rows], unit_points(len(rows))
    at = 1
    while at < len(rows):
        for by in reversed(range(at)):
            layer = layers_of([row[:at + 1] for row in rows[:at + 1]])[by]
            take_off(rows, points, at, by, nearest(layer[0][at - by], layer[0][0]))
        layer = layers_of([row[:at + 1] for row in rows[:at + 1]])[at - 1]
        if 4 * layer[1][1] < 3 * layer[0][0]:
            swap(rows, points, at)
            at = max(1, at - 1)
        else:
            at += 1
    return rows, points


def take_off(rows, points, at, by, times):
    """Take from the point at one index so many times the one at another index, in the table's rows, too."""
    points[at] = lessened(points[at], points[by], times)
    rows[at] = lessened(rows[at], rows[by], times)
    for row in rows:
        row[at] -= times * row[by]


def swap(rows, points, at):
    """Let the point at an index and the one ahead of it change places, in the table's rows, too."""
    points[at - 1], points[at] = points[at], points[at - 1]
    rows[at - 1], rows[at] = rows[at], rows[at - 1]
    for row in rows:
        row[at - 1], row[at] = row[at], row[at - 1]
