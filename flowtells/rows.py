"""Small rows of a table: what the ties of a web have in its flows, told from least points."""

from flowtells.bases import first_independent, sum_of_products
from flowtells.classes import least
from flowtells.contraries import is_told_way, told_way
from flowtells.determinants import beside_diagonal, determinant_of


def small_rows(table):
    """All small rows of a table, ascending."""
    return small_at(least(table))


def small_at(classes):
    """All rows but noughts that are 0, 1 or -1 at each least point of these classes, ascending."""
    # At the contrary of a point a row is as small, so half of each class is enough.
    points = [point for _, _, points in classes for point in points[len(points) // 2:]]
    shortest = sorted([(length, points[0]) for _, length, points in classes])
    basis = first_independent([point for _, point in shortest])
    signs = [some for some in all_signs(len(basis)) if is_told_way(some)]
    found = [told_way(row) for row in rows_with(basis, signs)]
    return tuple(sorted([row for row in found if is_small(row, points)]))


def all_signs(size):
    """All tuples of so many integers, each 0, 1 or -1."""
    found = [()]
    for _ in range(size):
        found = [(sign,) + some for sign in (-1, 0, 1) for some in found]
    return found


def rows_with(points, values):
    """The rows that at n independent points are what one of these values tells, as far as they are integers."""
    worth, turned_back = determinant_of(points), beside_diagonal(points)
    found = [[sum_of_products(by, some) for by in turned_back] for some in values]
    return [[number // worth for number in row] for row in found if not any([number % worth for number in row])]


def is_small(row, points):
    """Whether a row is 0, 1 or -1 at each of these points."""
    return all([-1 <= sum_of_products(row, point) <= 1 for point in points])
