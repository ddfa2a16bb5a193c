"""Lots: rows, each so many times, that make up a table by their squares."""

from itertools import combinations

from flowtells.bases import by_first_basis, small_sum
from flowtells.checks import are_integers, is_within
from flowtells.contraries import is_told_way, told_way
from flowtells.errors import BadLot
from flowtells.flows import few_flows
from flowtells.papers import fixed
from flowtells.tables import MOST_ROWS, Table

MOST_IN_LOT = 15


class Lot:
    """A lot: unlike rows of n integers, each with its times, any n of them of the determinant 0, 1 or -1."""

    def __init__(self, rows, times):
        if not are_unlike_rows(rows):
            raise BadLot("rows")
        if not are_times(times, len(rows)):
            raise BadLot("times")
        if not are_unimodular(rows):
            raise BadLot("determinant")
        pairs = sorted(zip(fixed(rows), times))
        self.size = len(rows[0])
        self.rows = tuple([row for row, _ in pairs])
        self.times = tuple([many for _, many in pairs])
        self.table = Table(sum_of_squares(self.rows, self.times))

    def __eq__(self, other):
        if not isinstance(other, Lot):
            return False
        return type(self) is type(other) and self.rows == other.rows and self.times == other.times


def need_lot(value, part):
    """Refuse, by the name of a parameter, what is no lot."""
    if not isinstance(value, Lot):
        raise BadLot(part)


def are_unlike_rows(value):
    """Whether a value is a list of 1 to 15 unlike rows as a lot tells them, as many as one has integers at least."""
    if not isinstance(value, (list, tuple)) or not 1 <= len(value) <= MOST_IN_LOT:
        return False
    if not all([are_integers(row) and is_told_way(row) for row in value]):
        return False
    sizes = [len(row) for row in value]
    if min(sizes) < max(sizes) or max(sizes) > min(MOST_ROWS, len(value)):
        return False
    return len(set(fixed(value))) == len(value)


def are_unimodular(rows):
    """Whether any n of some rows of n integers have the determinant 0, 1 or -1, and that of some n is not 0."""
    numbers, worth, told = by_first_basis(fixed(rows))
    if len(numbers) < len(rows[0]) or worth not in (1, -1):
        return False
    # Now the determinants are those that some integers of some of these rows make. They are 0, 1 and -1 alone exactly
    # if any columns can be added, each or its contrary, such that only 0, 1 and -1 come (Ghouila-Houri).
    columns = list(zip(*told))
    for many in range(1, len(columns) + 1):
        for first, *rest in combinations(columns, many):
            if small_sum(first, rest) is None:
                return False
    return True


def are_times(value, many):
    """Whether a value is a list of so many integers from 1 on."""
    if not isinstance(value, (list, tuple)) or len(value) != many:
        return False
    return all([is_within(times, 1, None) for times in value])


def sum_of_squares(rows, times):
    """The squares of rows, each so many times, added up."""
    spots = range(len(rows[0]))
    return [[sum([row[at] * row[by] * many for row, many in zip(rows, times)]) for by in spots] for at in spots]


def lot_of(web):
    """The lot of the rows that the ties of a web other than bridges have in its flow basis."""
    basis, counts = few_flows(web), {}
    for numbers in zip(*basis):
        # A bridge has the row of noughts: no flow goes along it.
        if any(numbers):
            row = told_way(numbers)
            counts[row] = counts.get(row, 0) + 1
    rows = sorted(counts)
    return Lot(rows, [counts[row] for row in rows])
