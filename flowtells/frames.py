"""The points of two tables that are alone, led to one another such that they share as much."""

from flowtells.bases import by_first_basis, made_of, shares_of, unit_points
from flowtells.rounds import alone


class Frame:
    """The points of a table that are alone, what any two of them share, and of each what no basis changes."""

    def __init__(self, table):
        self.points = alone(table)
        self.shares = shares_of(table.rows, self.points)
        self.kinds = [[row[at]] + sorted([abs(number) for number in row]) for at, row in enumerate(self.shares)]

    def chosen(self):
        """The numbers of independent points, as many as can be; of rare kinds, as far as there are such."""
        rare = sorted([(self.kinds.count(kind), at) for at, kind in enumerate(self.kinds)])
        found, _, _ = by_first_basis([self.points[at] for _, at in rare])
        return [rare[number][1] for number in found]


def led(frame, goal):
    """For each unit point of a table the point of another one to which it is led, None if they are not one table.

    The tables have one determinant; so if independent points share as much as those to which they are led, all do,
    and all points are come to, as soon as the unit points are led to points.
    """
    if sorted(frame.kinds) != sorted(goal.kinds):
        return None
    return led_on(frame, goal, frame.chosen(), [])


def led_on(frame, goal, chosen, ends):
    """Where the unit points are led if the first chosen points are led to these ends; None if they cannot go on so.

    An end is the number of a point, and 1, or -1 for its contrary.
    """
    if len(ends) == len(chosen):
        return led_units([frame.points[at] for at in chosen], [signed_point(goal.points, end) for end in ends])
    # All points can be led to the contraries, too, so the first one need not be.
    signs = (1, -1) if ends else (1,)
    for end in [(at, sign) for at in range(len(goal.points)) for sign in signs]:
        if shares_so(frame, goal, chosen, ends, end):
            found = led_on(frame, goal, chosen, ends + [end])
            if found is not None:
                return found
    return None


def shares_so(frame, goal, chosen, ends, end):
    """Whether the next one of the chosen points can be led to this end, the first ones being led to those ends."""
    number, (at, sign) = chosen[len(ends)], end
    if frame.kinds[number] != goal.kinds[at]:
        return False
    pairs = [(frame.shares[number][by], sign * way * goal.shares[at][to]) for by, (to, way) in zip(chosen, ends)]
    return all([one == other for one, other in pairs])


def signed_point(points, end):
    """The point that an end is."""
    at, sign = end
    return [sign * number for number in points[at]]


def led_units(points, ends):
    """The points to which the unit points are led if independent ones are led to these; None if those are no points."""
    _, worth, told = by_first_basis(points + unit_points(len(points)))
    found = [made_of(ends, times) for times in told[len(points):]]
    if any([number % worth for point in found for number in point]):
        return None
    return [[number // worth for number in point] for point in found]
