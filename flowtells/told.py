"""What a table tells: a web that bears it, or why there is none."""

from flowtells.bars import LotOf, lot
from flowtells.grown import grown


def told(table):
    """The Grown, the NoWeb or the NoLot that is right for the table."""
    found = lot(table)
    return grown(found.lot) if type(found) is LotOf else found
