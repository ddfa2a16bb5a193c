"""Whether a table is a lot's: its lot, or a bar."""

from flowtells.bases import made_of, many_bits, odd_bits
from flowtells.classes import least_ends
from flowtells.lots import Lot, sum_of_squares
from flowtells.papers import Denial, Paper
from flowtells.rounds import all_tops
from flowtells.rows import row_by, small_at
from flowtells.short_bases import ShortBasis
from flowtells.tables import need_table


class LotOf(Paper):
    """The lot whose table a table is."""

    def __init__(self, lot):
        super().__init__("lotof", lot)
        self.lot = self.parts[0]


class NoLot(Denial):
    """A bar, which shows that a table is no lot's."""

    def __init__(self, bar):
        super().__init__("nolot", bar)
        self.bar = self.parts[0]


def lot(table):
    """The LotOf of the lot whose table it is, or the NoLot of a bar."""
    need_table(table, "table")
    short = ShortBasis(table.rows)
    classes = least_ends(short.left)
    tops = list(enumerate(all_tops([length for length, _ in classes]), start=1))
    below = [number for number, top in tops if top < 0]
    if below:
        return NoLot(bar_by(short, classes, below[0], 1))
    rows = {odd_bits(row): row for row in small_at(classes)}
    counted = [(number, top) for number, top in tops if top > 0]
    for number, _ in counted:
        if number not in rows:
            return NoLot(bar_by(short, classes, number, -1))
    # Now these rows, so many times, give each least point the length that it has, and these lengths tell the table.
    bottom = 1 << (table.size - 1)
    return LotOf(Lot([row_by(short, rows[number]) for number, _ in counted], [top // bottom for _, top in counted]))


def bar_by(short, classes, number, sign):
    """The bar that tells of a sort that its number is below 0, or, contrary, above 0 where no small row is odd so."""
    # Multiplied with the table, the squares of one least point of each class, with these signs, give the number of
    # the sort, but for a factor. With a small row they do so, too: 1 for the one that is odd as the sort tells, else 0.
    points = [made_of(short.points, ends[0]) for _, ends in classes]
    signs = [sign if many_bits(number & kind) & 1 else -sign for kind in range(1, len(classes) + 1)]
    return sum_of_squares(points, signs)
