"""Lots that are no web's: K5 or K33 in them."""

from flowtells.bases import lessened
from flowtells.contraries import told_way
from flowtells.determinants import leave_noughts_alone, seen_at
from flowtells.heights import FIVE, SIX, first_heights, heights_with
from flowtells.lot_webs import web_of
from flowtells.lots import need_lot
from flowtells.papers import Denial


class NoWeb(Denial):
    """K5 or K33 in a lot: the numbers of its kept and of its idle rows, and the names of the kept ones."""

    def __init__(self, kept, idle, names):
        super().__init__("noweb", kept, idle, names)
        self.kept = self.parts[0]
        self.idle = self.parts[1]
        self.names = self.parts[2]


def unwebbed(lot):
    """The NoWeb of a lot that is no web's, None for a web's."""
    need_lot(lot, "lot")
    return shown_in(lot) if web_of(lot) is None else None


def shown_in(lot):
    """The NoWeb of a lot that is known to be no web's."""
    # Tutte: in such a lot there is K5, at points that some four make up, or K33, at points that some five do.
    if lot.size == 4:
        return found_in(lot.rows, [], FIVE)
    for number in range(len(lot.rows)):
        found = found_in(lot.rows, [number], FIVE)
        if found is not None:
            return found
    return found_in(lot.rows, [], SIX)


def found_in(rows, idle, pairs):
    """The NoWeb of K5 or K33, as its pairs tell, in rows of which these are idle; None if it is not there."""
    seen = seen_rows(rows, idle)
    if len(seen) < len(pairs):
        return None
    # One idle row is 0 at points that one point less makes up.
    named = named_rows(seen, pairs, first_heights(len(rows[0]) - len(idle)), ())
    if named is None:
        return None
    told = sorted(zip([seen[row] for row in named], pairs))
    return NoWeb([number for number, _ in told], idle, [pair for _, pair in told])


def seen_rows(rows, idle):
    """What the rows that are not idle are where the idle ones are 0, told as rows are, each with its first number."""
    numbers = [number for number in range(len(rows)) if number not in idle]
    lists = seen_at([rows[number] for number in numbers], [rows[number] for number in idle])
    found = {}
    for row, number in zip(lists, numbers):
        found.setdefault(told_way(row), number)
    return found


def named_rows(rows, pairs, heights, taken):
    """The rows, behind those taken, that have heights by the names of these pairs, in their order; None if none do."""
    if len(taken) == len(pairs):
        return taken if leave_noughts_alone(list(taken)) else None
    for row in rows_for(rows, pairs, heights, taken):
        for more in heights_with(heights, pairs[len(taken)], row):
            found = named_rows(rows, pairs, more, taken + (row,))
            if found is not None:
                return found
    return None


def rows_for(rows, pairs, heights, taken):
    """The rows that may have the pair behind those of the rows taken."""
    one, other = pairs[len(taken)]
    if one in heights and other in heights:
        row = told_way(lessened(heights[one], heights[other], 1))
        return [row] if row in rows and row not in taken else []
    known = one if one in heights else other
    # Names that are tied alike may change places, so the rows that first lead away from one name may ascend.
    ahead = [row for row, pair in zip(taken, pairs) if known in pair]
    return [row for row in rows if row not in taken and (not ahead or row > max(ahead))]
