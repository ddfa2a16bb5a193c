"""A table in a basis in which no point becomes shorter when another one is taken off."""

from flowtells.bases import lessened, nearest, shares_of
from flowtells.determinants import determinant_of
from flowtells.papers import Paper
from flowtells.short_bases import ShortBasis
from flowtells.tables import Table, are_points, need_table


class Shortened(Paper):
    """A table, changed by a basis of points such that no two of them share much, and these points."""

    def __init__(self, table, points):
        super().__init__("shortened", table, points)
        self.table = self.parts[0]
        self.points = self.parts[1]


def shortened(table):
    """The Shortened of a table."""
    need_table(table, "table")
    # This basis is near the end already, so that few steps are left to take.
    points = ShortBasis(table.rows).points
    rows = shares_of(table.rows, points)
    pair = first_too_near(rows)
    while pair is not None:
        at, by = pair
        take_off(rows, points, at, by, nearest(rows[at][by], rows[by][by]))
        pair = first_too_near(rows)
    return Shortened(Table(rows), points)


def take_off(rows, points, at, by, times):
    """Take from the point at one index so many times the one at another index, in the table's rows, too."""
    points[at] = lessened(points[at], points[by], times)
    rows[at] = lessened(rows[at], rows[by], times)
    for row in rows:
        row[at] -= times * row[by]


def first_too_near(rows):
    """The first two unlike indices of which the one point becomes shorter by the other one, None if there are none."""
    for at in range(len(rows)):
        for by in range(len(rows)):
            if at != by and 2 * abs(rows[at][by]) > rows[by][by]:
                return at, by
    return None


def shows_shortened(table, value):
    """Whether a value is a Shortened of a basis, and of the table changed by it, that is short enough."""
    need_table(table, "table")
    if type(value) is not Shortened or not isinstance(value.table, Table):
        return False
    points = value.points
    if not are_points(points, table.size) or determinant_of(points) not in (1, -1):
        return False
    return table.changed(points).rows == value.table.rows and first_too_near(value.table.rows) is None
