"""Tables: how much any two of a few points share."""

from flowtells.bases import shares_of
from flowtells.checks import are_integers
from flowtells.determinants import cleared, determinant_of
from flowtells.errors import BadNumber, BadTable, BadText
from flowtells.papers import fixed
from flowtells.texts import items_of, number_at, read_colon, read_end

MOST_ROWS = 5


class Table:
    """A table: n rows of n integers, the same both ways, each point but noughts of a length above 0."""

    def __init__(self, rows):
        if not are_rows(rows):
            raise BadTable("rows")
        if not is_same_both_ways(rows):
            raise BadTable("sides")
        corners = corners_of(rows)
        if min(corners) <= 0:
            raise BadTable("worth")
        self.rows = fixed(rows)
        self.size = len(rows)
        self.determinant = corners[-1]

    def __eq__(self, other):
        if not isinstance(other, Table):
            return False
        return type(self) is type(other) and self.rows == other.rows

    def __str__(self):
        return " ".join([str(self.size), ":"] + [str(number) for row in self.rows for number in row])

    @staticmethod
    def read(text):
        """The table whose text this is."""
        items = items_of(text)
        size = number_at(items, 0, 1, MOST_ROWS)
        read_colon(items, 1)
        rows = []
        for at in range(size):
            sides = [row[at] for row in rows] + [None] * (size - at)
            start = 2 + at * size
            rows.append([number_at(items, start + by, side, side) for by, side in enumerate(sides)])
        read_end(items, 2 + size * size)
        try:
            return Table(rows)
        except BadTable:
            raise BadText(0, len(items) - 1) from None

    def length(self, point):
        """What a point shares with itself."""
        need_point(point, self.size, "point")
        return shared(self.rows, point, point)

    def share(self, one, other):
        """What two points share."""
        need_point(one, self.size, "one")
        need_point(other, self.size, "other")
        return shared(self.rows, one, other)

    def changed(self, points):
        """The table of what any two points of a basis share."""
        if not are_points(points, self.size):
            raise BadNumber("points")
        if determinant_of(points) not in (1, -1):
            raise BadNumber("determinant")
        return Table(shares_of(self.rows, points))


def need_table(value, part):
    """Refuse, by the name of a parameter, what is no table."""
    if not isinstance(value, Table):
        raise BadTable(part)


def are_rows(value):
    """Whether a value is a list of n lists of n integers, n from 1 to 5."""
    return isinstance(value, (list, tuple)) and 1 <= len(value) <= MOST_ROWS and are_points(value, len(value))


def are_points(value, size):
    """Whether a value is a list of so many points of so many integers."""
    if not isinstance(value, (list, tuple)) or len(value) != size:
        return False
    return all([is_point(point, size) for point in value])


def is_point(value, size):
    """Whether a value is a list of so many integers."""
    return are_integers(value) and len(value) == size


def need_point(value, size, part):
    """Refuse, by the name of a parameter, what is no point of so many integers."""
    if not is_point(value, size):
        raise BadNumber(part)


def is_same_both_ways(rows):
    """Whether the integer at row i, column j is also the one at row j, column i."""
    size = len(rows)
    return all([rows[at][by] == rows[by][at] for at in range(size) for by in range(at)])


def corners_of(rows):
    """The determinants of the first row and column, of the first two, and so on, to the first that is not above 0."""
    # Each point but noughts has a length above 0 exactly if all of these are above 0 (Sylvester).
    found, left, before = [], rows, 1
    while left:
        top, *rest = left
        found.append(top[0])
        if top[0] <= 0:
            return found
        left, before = [cleared(row, top, 0, before) for row in rest], top[0]
    return found


def shared(rows, one, other):
    """What two points share by the rows of a table."""
    spots = range(len(rows))
    return sum([one[at] * other[by] * rows[at][by] for at in spots for by in spots])
