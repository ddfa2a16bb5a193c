"""The check of papers that tell that a lot is no web's."""

from flowtells.checks import are_integers
from flowtells.determinants import leave_noughts_alone, seen_at
from flowtells.heights import FIVE, SIX, have_heights
from flowtells.lots import need_lot
from flowtells.unwebbed import NoWeb


def shows_unwebbed(lot, value):
    """Whether a value is a NoWeb of rows and names that show K5 or K33 in the lot."""
    need_lot(lot, "lot")
    if type(value) is not NoWeb or not are_numbers(value.kept, len(lot.rows)):
        return False
    if not are_numbers(value.idle, len(lot.rows)) or any([number in value.kept for number in value.idle]):
        return False
    return are_names(value.names, len(value.kept)) and stand_for(lot.rows, value.kept, value.idle, value.names)


def are_numbers(value, many):
    """Whether what a paper keeps is a list of numbers of so many things, ascending."""
    if not are_integers(value) or any([number < 0 or number >= many for number in value]):
        return False
    return list(value) == sorted(set(value))


def are_names(value, many):
    """Whether what a paper keeps is a list of so many pairs of names: all those of K5, or of K33, each once."""
    if not isinstance(value, tuple) or len(value) != many or not all([are_integers(pair) for pair in value]):
        return False
    return sorted(value) in (sorted(FIVE), sorted(SIX))


def stand_for(rows, kept, idle, names):
    """Whether the kept rows, where all idle ones are 0, are what heights of their names differ by, in all ways."""
    seen = seen_at([rows[number] for number in kept], [rows[number] for number in idle])
    # Some four points make up all for the five names of K5, some five for the six of K33.
    if len(seen[0]) != max([other for _, other in names]):
        return False
    return leave_noughts_alone(seen) and have_heights(seen, names)
