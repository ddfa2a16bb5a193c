"""Short bases of the points of a table, as Lenstra, Lenstra and Lovasz find them, by integers alone."""

from flowtells.bases import lessened, nearest, unit_points
from flowtells.determinants import cleared


class ShortBasis:
    """A basis of short points of a table.

    points: the basis. back: rows that at these points are units. left: in list i, at index j, up to i, what the points
    i and j share when, by fractions, what they have of the first j points is taken out, times the determinant of what
    these share; so at index i stands the determinant for the first i + 1 points.
    """

    def __init__(self, rows):
        self.points, self.back = unit_points(len(rows)), unit_points(len(rows))
        self.left = left_over(rows)
        at = 1
        while at < len(rows):
            self.lessen(at)
            # Only what becomes shorter by a quarter is moved ahead, so that few steps are taken.
            if 4 * self.length_ahead(at) < 3 * self.left[at - 1][at - 1]:
                self.swap(at)
                at = max(1, at - 1)
            else:
                at += 1

    def lessen(self, at):
        """Take from the point at an index those ahead of it, each as often as makes it short."""
        for by in reversed(range(at)):
            times = nearest(self.left[at][by], self.left[by][by])
            if times != 0:
                self.points[at] = lessened(self.points[at], self.points[by], times)
                self.back[by] = lessened(self.back[by], self.back[at], -times)
                self.left[at] = lessened(self.left[at], self.left[by], times) + self.left[at][by + 1:]

    def length_ahead(self, at):
        """What would stand in the place of the determinant for the points ahead if the point moved ahead by one."""
        before = self.left[at - 2][at - 2] if at > 1 else 1
        side = self.left[at][at - 1]
        return (before * self.left[at][at] + side * side) // self.left[at - 1][at - 1]

    def swap(self, at):
        """Let the point at an index and the one ahead of it change places."""
        low, high, new = self.left[at - 1], self.left[at], self.length_ahead(at)
        old, side, last = low[at - 1], high[at - 1], high[at]
        self.left[at - 1], self.left[at] = high[:at - 1] + [new], low[:at - 1] + [side, last]
        for row in self.left[at + 1:]:
            # All of this are determinants again, so no division leaves a rest.
            second = (last * row[at - 1] - side * row[at]) // old
            row[at - 1], row[at] = (new * row[at] + side * second) // last, second
        self.points[at - 1], self.points[at] = self.points[at], self.points[at - 1]
        self.back[at - 1], self.back[at] = self.back[at], self.back[at - 1]


def left_over(rows):
    """For the unit points of a table what is left of what they share, as a short basis keeps it."""
    found, before = [[] for _ in rows], 1
    while rows:
        top, *rest = rows
        for lists, number in zip(found[-len(rows):], top):
            lists.append(number)
        rows, before = [cleared(row, top, 0, before) for row in rest], top[0]
    return found
