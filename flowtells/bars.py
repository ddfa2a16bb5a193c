"""Whether a table is a lot's: its lot, or a bar."""

from flowtells.classes import kind_of, least
from flowtells.lots import Lot, sum_of_squares
from flowtells.papers import Denial, Paper
from flowtells.rounds import all_numbers, meet_oddly
from flowtells.rows import small_at


class LotOf(Paper):
    """The lot whose table a table is."""

    def __init__(self, lot):
        super().__init__("lotof", lot)
        self.lot = self.parts[0]


class NoLot(Denial):
    """A bar, which shows that a table is no lot's."""

    def __init__(self, bar):
        super().__init__("nolot", bar)
        self.bar = self.parts[0]


def lot(table):
    """The LotOf of the lot whose table it is, or the NoLot of a bar."""
    classes = least(table)
    rows = {kind_of(row): row for row in small_at(classes)}
    found = [(sort, top, bottom) for sort, top, bottom in all_numbers(classes) if top != 0]
    for sort, top, _ in found:
        if top < 0 or sort not in rows:
            return NoLot(bar_by(classes, sort, top))
    # Now these rows, so many times, give each least point the length that it has, and these lengths tell the table.
    return LotOf(Lot([rows[sort] for sort, _, _ in found], [top // bottom for _, top, bottom in found]))


def bar_by(classes, sort, top):
    """The bar that tells of a sort that its number is below 0, or above 0 where no small row is odd as it tells."""
    # Multiplied with the table, the squares of one least point of each class, with these signs, give the number of
    # the sort, but for a factor. With a small row they do so, too: 1 for the one that is odd as the sort tells, else 0.
    points = [ends[0] for _, _, ends in classes]
    signs = [1 if meet_oddly(sort, kind) else -1 for kind, _, _ in classes]
    return sum_of_squares(points, [-sign for sign in signs] if top > 0 else signs)
