"""Tables to ask about, in short bases and in far ones, and what is so of them, found in another way."""

import random
from fractions import Fraction
from itertools import product
from math import prod

from flowtells.flows import flow_table
from flowtells.pulls import pull_table
from flowtells.tables import Table
from tests.oracles import HAND_MADE, LARGE, determinant, full, random_webs, ring


def shared(one, other):
    """What two lists of integers share."""
    return sum(a * b for a, b in zip(one, other))


def squares(points):
    """What any two of these lists of integers share."""
    return [[shared(one, other) for other in points] for one in points]


def one_of(size):
    """The rows with 1 where row and column are one, else 0."""
    return [[int(at == by) for by in range(size)] for at in range(size)]


def meets(rows, one, other):
    """What two points share by the rows of a table."""
    return shared(one, [shared(row, other) for row in rows])


def changed(rows, points):
    """The rows of what any two of these points share."""
    return tuple(tuple(meets(rows, one, other) for other in points) for one in points)


def combined(times, points):
    """The sum of points, each so many times."""
    return tuple(sum(by * point[at] for by, point in zip(times, points)) for at in range(len(points[0])))


def basis_of(source, size, most):
    """A basis in which some integer has more digits than most, or points of noughts and ones for most 0."""
    points = one_of(size)
    source.shuffle(points)
    if size == 1:
        return [[source.choice((1, -1))]]
    while max(abs(number) for point in points for number in point) < 10 ** most:
        at, by = source.sample(range(size), 2)
        times = source.choice((-1, 1)) * source.randint(1, 10 ** min(most, 6))
        points[at] = [a + times * b for a, b in zip(points[at], points[by])]
    return points


def inverse(points):
    """The rows that, multiplied with these points, are the units; the points are a basis."""
    size = len(points)
    left = [list(point) + unit for point, unit in zip(points, one_of(size))]
    for at in range(size):
        while any(row[at] for row in left[at + 1:]):
            low = min((row for row in left[at:] if row[at]), key=lambda row: abs(row[at]))
            left[left.index(low)], left[at] = left[at], low
            for by in range(at + 1, size):
                times = left[by][at] // low[at]
                left[by] = [number - times * other for number, other in zip(left[by], low)]
        if left[at][at] < 0:
            left[at] = [-number for number in left[at]]
    for at in reversed(range(size)):
        for by in range(at):
            left[by] = [number - left[by][at] * other for number, other in zip(left[by], left[at])]
    return [row[size:] for row in left]


def bar_changed(bar, points):
    """The bar of a table changed by points, for the bar of the table."""
    # What is asked of the old rows is asked of the new ones if the bar is told by the points turned back.
    turned = [list(row) for row in zip(*inverse(points))]
    return [[meets(bar, one, other) for other in turned] for one in turned]


def star_of(size):
    """The table of D, of so many rows from 4 on: one point shares 1 with three others, in a row with the rest."""
    rows = [[2 * number for number in row] for row in one_of(size)]
    for at, by in [(0, 1), (0, 2), (0, 3)] + [(at, at + 1) for at in range(3, size - 1)]:
        rows[at][by] = rows[by][at] = -1
    return rows


def back(rows):
    """The table that, but for a factor, is the other way about: of points that share integers with all these."""
    spots = range(len(rows))
    return [[(-1) ** (at + by) * determinant([[rows[i][j] for j in spots if j != at] for i in spots if i != by])
             for by in spots] for at in spots]


def random_table(source, size, most):
    """A table of so many points with integers that are no greater than most."""
    while True:
        rows = squares([[source.randint(-most, most) for _ in range(size + 1)] for _ in range(size)])
        if determinant(rows) != 0:
            return Table(rows)


def flow_webs():
    """Webs that have a table of flows."""
    webs = HAND_MADE + LARGE + random_webs(31, 60, 8, 11) + [full(5)]
    return [web for web in webs if 1 <= len(web.ties) - web.places + 1 <= 5]


def pull_webs():
    """Webs that have a table of pulls."""
    webs = HAND_MADE + LARGE + random_webs(32, 60, 6, 12) + [full(5)]
    return [web for web in webs if 2 <= web.places <= 6]


# The lot of ten rows that is neither that of flows of a web nor that of pulls: R10.
TEN = one_of(5) + [[-1, 1, 0, 0, 1], [1, -1, 1, 0, 0], [0, 1, -1, 1, 0], [0, 0, 1, -1, 1], [1, 0, 0, 1, -1]]
# D4 and D5, and the same the other way about: lots of none of them.
STARS = [Table(star_of(4)), Table(star_of(5)), Table(back(star_of(4))), Table(back(star_of(5)))]
HAND_TABLES = STARS + [
    Table([[1]]), Table([[13]]), Table([[10 ** 39]]), Table([[2, -1], [-1, 2]]), Table([[2, 0], [0, 2]]),
    Table([[3, -2], [-2, 5]]), Table([[2, 1], [1, 10 ** 39]]), Table([[1, 0, 0], [0, 10 ** 20, 0], [0, 0, 10 ** 39]]),
    Table(one_of(5)), Table([[2, 0, 1, 0], [0, 2, 1, 0], [1, 1, 2, 1], [0, 0, 1, 2]]),
    Table([[2, -1, 0, 0, 0], [-1, 2, -1, -1, 0], [0, -1, 2, 0, 0], [0, -1, 0, 2, 0], [0, 0, 0, 0, 3]]),
    Table([[2, 1, 1, 1, 1], [1, 2, 1, 1, 1], [1, 1, 2, 1, 1], [1, 1, 1, 2, 1], [1, 1, 1, 1, 2]]),
    Table(squares(list(zip(*TEN)))),
    Table([[5, -1, -1, -1, -1], [-1, 5, -1, -1, -1], [-1, -1, 5, -1, -1], [-1, -1, -1, 5, -1], [-1, -1, -1, -1, 5]]),
]


def some_tables(seed, many):
    """The tables by hand, some of webs, and some of no web."""
    source = random.Random(seed)
    webs = [flow_table(web) for web in source.sample(flow_webs(), 20)]
    webs += [pull_table(web) for web in source.sample(pull_webs(), 20)]
    return HAND_TABLES + webs + [random_table(source, source.randint(1, 5), 3) for _ in range(many)]


def far_tables(seed, tables, most):
    """Each table changed by a far basis, with this basis."""
    source = random.Random(seed)
    found = []
    for table in tables:
        points = basis_of(source, table.size, most)
        found.append((table, points, Table(changed(table.rows, points))))
    return found


def least_by_search(rows):
    """For each class its length and its least points, by trying all points that are not too far out."""
    found = {}
    for kind, ranges in all_ranges(rows):
        points = list(product(*ranges))
        lengths = [meets(rows, point, point) for point in points]
        length = min(lengths)
        found[kind] = length, tuple(point for point, long in zip(points, lengths) if long == length)
    return found


def all_ranges(rows):
    """For each class, for each index, the integers that a least point of the class can have there."""
    turned, worth, found = back(rows), determinant(rows), []
    for kind in product((0, 1), repeat=len(rows)):
        if any(kind):
            bound = min(meets(rows, point, point) for point in product(*[(-1, 1) if odd else (0,) for odd in kind]))
            # No integer of a point is, squared, more than the point's length times this fraction.
            most = [wide(Fraction(bound * turned[at][at], worth)) for at in range(len(rows))]
            found.append((kind, [[number for number in range(-top, top + 1) if number % 2 == odd]
                                 for odd, top in zip(kind, most)]))
    return found


def searched(tables):
    """Those of the tables of which a search of least points is short."""
    small = [table for table in tables if max(abs(number) for row in table.rows for number in row) < 1000]
    return [table for table in small if sum(prod(map(len, some)) for _, some in all_ranges(table.rows)) < 3000]


def wide(most):
    """The greatest integer whose square is no more than a fraction."""
    number = 0
    while (number + 1) ** 2 <= most:
        number += 1
    return number


def numbers_by_search(rows):
    """The number of each sort whose number is not 0, straight from the words of the document."""
    lengths = {kind: length for kind, (length, _) in least_by_search(rows).items()}
    found = {}
    for sort in lengths:
        total = sum(long if shared(sort, kind) % 2 else -long for kind, long in lengths.items())
        if total:
            found[sort] = Fraction(total, 2 ** (len(rows) - 1))
    return found


def told(numbers):
    """Of a list and its contrary the one whose first integer other than 0 is above 0."""
    return tuple(max(list(numbers), [-number for number in numbers]))


def small_by_search(rows, most):
    """The small rows of a table, of those with integers from -most to most."""
    points = [point for _, points in least_by_search(rows).values() for point in points]
    found = []
    for row in product(range(-most, most + 1), repeat=len(rows)):
        if any(row) and told(row) == row and all(abs(shared(row, point)) <= 1 for point in points):
            found.append(row)
    return tuple(sorted(found))
