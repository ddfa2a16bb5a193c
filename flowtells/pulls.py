"""Pulls of a web: their basis and table."""

from flowtells.checks import are_integers
from flowtells.errors import Misfit, TooMany
from flowtells.flows import all_shared, flow_basis, share
from flowtells.tables import MOST_ROWS, Table
from flowtells.webs import need_web


def is_pull(web, numbers):
    """Whether a value is a list of integers that is a pull of the web."""
    need_web(web, "web")
    if not are_integers(numbers) or len(numbers) != len(web.ties):
        return False
    # Numbers are a pull exactly if they share 0 with each flow of a basis.
    return not any([share(flow, numbers) for flow in flow_basis(web)])


def pull_basis(web):
    """The pulls of the pull basis."""
    need_web(web, "web")
    return tuple([pull_of(web, place) for place in range(1, web.places)])


def pull_of(web, place):
    """The pull of height 1 at one place and 0 elsewhere."""
    heights = [1 if at == place else 0 for at in range(web.places)]
    return tuple([heights[other] - heights[one] for one, other in web.ties])


def pull_table(web):
    """The table of what any two pulls of the pull basis share."""
    basis = pull_basis(web)
    if not basis:
        raise Misfit("pulls")
    if len(basis) > MOST_ROWS:
        raise TooMany("rows", MOST_ROWS)
    return Table(all_shared(basis))
