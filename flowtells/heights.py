"""K5 and K33 among rows: names for rows, and heights of names by which the rows are told."""

from flowtells.bases import lessened
from flowtells.contraries import told_way

# All pairs of names. Each stands as soon as both of its names do, so that names that lead nowhere are left early.
FIVE = ((0, 1), (0, 2), (1, 2), (0, 3), (1, 3), (2, 3), (0, 4), (1, 4), (2, 4), (3, 4))
SIX = ((0, 3), (0, 4), (1, 3), (1, 4), (0, 5), (1, 5), (2, 3), (2, 4), (2, 5))


def first_heights(size):
    """Heights for the name 0 alone, nought at each of so many points."""
    return {0: (0,) * size}


def heights_with(heights, pair, row):
    """All heights, with those known, by which a row is, but for its sign, what the heights of its names differ by."""
    one, other = pair
    if one in heights and other in heights:
        return [heights] if told_way(lessened(heights[one], heights[other], 1)) == told_way(row) else []
    known, new = (one, other) if one in heights else (other, one)
    return [{**heights, new: tuple(lessened(heights[known], row, sign))} for sign in (1, -1)]


def have_heights(rows, names):
    """Whether there are heights for the names of these rows, which are all pairs of FIVE or of SIX."""
    found = [first_heights(len(rows[0]))]
    for pair, row in sorted(zip(names, rows)):
        found = [more for heights in found for more in heights_with(heights, pair, row)]
    return len(found) > 0
