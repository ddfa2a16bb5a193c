"""The check of papers that tell whether a table is a lot's."""

from flowtells.bars import LotOf, NoLot
from flowtells.lots import Lot
from flowtells.rows import small_rows
from flowtells.tables import are_points, is_same_both_ways, need_table, shared


def shows_lot(table, value):
    """Whether a value is a LotOf of a lot whose table this is, or a NoLot of a bar of this table."""
    need_table(table, "table")
    if type(value) is LotOf:
        return isinstance(value.lot, Lot) and value.lot.table.rows == table.rows
    return type(value) is NoLot and is_bar(table, value.bar)


def is_bar(table, bar):
    """Whether what a paper keeps is a bar of a table."""
    if not are_points(bar, table.size) or not is_same_both_ways(bar):
        return False
    spots = range(table.size)
    if sum([bar[at][by] * table.rows[at][by] for at in spots for by in spots]) >= 0:
        return False
    return all([shared(bar, row, row) >= 0 for row in small_rows(table)])
