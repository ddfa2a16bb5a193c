"""The check of papers that tell a web that bears the table of a lot."""

from flowtells.determinants import determinant_of
from flowtells.flows import is_flow
from flowtells.grown import Grown
from flowtells.lots import are_times, need_lot, sum_of_squares
from flowtells.papers import fixed
from flowtells.pieces import in_a_row
from flowtells.trees import first_tree
from flowtells.webs import Web, bridges


def shows_grown(lot, value):
    """Whether a value is a Grown of a web that bears the lot's table."""
    need_lot(lot, "lot")
    return is_borne(lot.table, value)


def is_borne(table, value):
    """Whether a value is a Grown of a web, without bridges and ties in a row, that bears a table."""
    if type(value) is not Grown or not isinstance(value.web, Web) or not are_times(value.times, len(value.web.ties)):
        return False
    if bridges(value.web) or max([len(row) for row in in_a_row(value.web)], default=0) > 1:
        return False
    if not is_basis(value.web, value.flows, table.size):
        return False
    return fixed(sum_of_squares(list(zip(*value.flows)), value.times)) == table.rows


def is_basis(web, flows, many):
    """Whether what a paper keeps is a list of so many flows that are a basis of all flows of a web."""
    if not isinstance(flows, tuple) or len(flows) != many or not all([is_flow(web, flow) for flow in flows]):
        return False
    tree = first_tree(web)
    # A flow is told by what it has at the ties beside the first tree, and these are any integers.
    told = [[number for tie, number in enumerate(flow) if tie not in tree] for flow in flows]
    return len(told[0]) == many and determinant_of(told) in (1, -1)
