"""Tables that are one in some basis."""

from flowtells.frames import Frame, led
from flowtells.papers import Denial, Paper
from flowtells.tables import need_table


class Same(Paper):
    """Two tables are one in some basis: the points by which the one, changed, is the other."""

    def __init__(self, points):
        super().__init__("same", points)
        self.points = self.parts[0]


class Unsame(Denial):
    """Two tables are one in no basis."""

    def __init__(self):
        super().__init__("unsame")


def same(one, other):
    """The Same of two tables if they are one in some basis, otherwise the Unsame."""
    need_table(one, "one")
    need_table(other, "other")
    if one.size != other.size or one.determinant != other.determinant:
        return Unsame()
    points = led(Frame(other), Frame(one))
    return Unsame() if points is None else Same(points)
