"""Webs from lots: a web whose flows have the table of a lot."""

from flowtells.lot_webs import web_of
from flowtells.lots import need_lot
from flowtells.papers import Paper
from flowtells.unwebbed import shown_in


class Grown(Paper):
    """A web, the times of its ties, and flows of it, which bear a table."""

    def __init__(self, web, times, flows):
        super().__init__("grown", web, times, flows)
        self.web = self.parts[0]
        self.times = self.parts[1]
        self.flows = self.parts[2]


def grown(lot):
    """A Grown of a web that bears the lot's table, the NoWeb that unwebbed tells if no web does."""
    need_lot(lot, "lot")
    web = web_of(lot)
    if web is None:
        return shown_in(lot)
    # What the rows have at one spot is a flow: each tie carries what its row tells there.
    return Grown(web, lot.times, list(zip(*lot.rows)))
