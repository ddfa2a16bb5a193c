"""The check of papers that tell which web bears a table, or why none does."""

from flowtells.bars import LotOf, NoLot, lot
from flowtells.check_grown import is_borne
from flowtells.check_lots import shows_lot
from flowtells.check_unwebbed import shows_unwebbed
from flowtells.tables import need_table
from flowtells.unwebbed import NoWeb


def shows_told(table, value):
    """Whether a value is a right Grown of the table, a right NoWeb of its lot, or a NoLot of a bar of it."""
    need_table(table, "table")
    if type(value) is NoWeb:
        found = lot(table)
        return type(found) is LotOf and shows_unwebbed(found.lot, value)
    if type(value) is NoLot:
        return shows_lot(table, value)
    return is_borne(table, value)
