"""Lots to ask about, and what is so of them, found in another way."""

import random
from fractions import Fraction
from itertools import combinations, product

from flowtells.lots import Lot
from flowtells.tables import Table
from tests.oracles import determinant
from tests.table_oracles import STARS, TEN, basis_of, one_of, shared, told


def heights_of(ties):
    """For each tie the row of what the heights of its ends differ by, place 0 having height 0."""
    places = 1 + max(max(tie) for tie in ties)
    return tuple(told([int(at == other) - int(at == one) for at in range(1, places)]) for one, other in ties)


# The rows of K5's heights, of K33's, of those of K6; and the ten rows of five integers of which each nine have K33.
KFIVE = heights_of(list(combinations(range(5), 2)))
KSIX = heights_of(list(product(range(3), range(3, 6))))
FULL = heights_of(list(combinations(range(6), 2)))
NEITHER = tuple(told(row) for row in TEN)


def rank(rows):
    """How many of these lists are independent, by fractions."""
    left, found = [[Fraction(number) for number in row] for row in rows], 0
    while left and left[0]:
        lead = next((row for row in left if row[0] != 0), None)
        if lead is None:
            left = [row[1:] for row in left]
        else:
            rest = [row for row in left if row is not lead]
            left = [[number - by * row[0] / lead[0] for number, by in zip(row, lead)][1:] for row in rest]
            found += 1
    return found


def is_unimodular(rows):
    """Whether any n of these rows of n integers have the determinant 0, 1 or -1, and some n not 0."""
    worths = {abs(determinant(some)) for some in combinations(rows, len(rows[0]))}
    return worths in ({1}, {0, 1})


def seen_from(rows, points):
    """The rows of what rows are at these points, told as rows are."""
    return [told([shared(row, point) for point in points]) for row in rows]


def fits_in(rows, row):
    """Whether a row can stand in a lot beside these rows, which have all units among them."""
    # With units, any of the integers of any two rows make such a determinant, too: most rows fail here already.
    for other, (at, by) in product(rows, combinations(range(len(row)), 2)):
        if abs(other[at] * row[by] - other[by] * row[at]) > 1:
            return False
    return all(abs(swift(some + (row,))) <= 1 for some in combinations(rows, len(row) - 1))


def swift(rows):
    """The determinant of a few small rows, along their first column."""
    if len(rows) == 2:
        return rows[0][0] * rows[1][1] - rows[0][1] * rows[1][0]
    return sum((-1) ** at * row[0] * swift([other[1:] for by, other in enumerate(rows) if by != at])
               for at, row in enumerate(rows) if row[0])


def random_lot(source, size, most):
    """Some rows of a lot with as many rows as can be, in a basis as far as told."""
    rows = [tuple(row) for row in one_of(size)]
    others = [row for row in product((-1, 0, 1), repeat=size) if any(row) and told(row) == row and row not in rows]
    source.shuffle(others)
    for row in others:
        if fits_in(rows, row):
            rows.append(row)
    chosen = source.sample(rows, source.randint(max(size, len(rows) - 4), len(rows)))
    if rank(chosen) < size:
        return random_lot(source, size, most)
    points = basis_of(source, size, most)
    return Lot(seen_from(chosen, points), [source.randint(1, 9) for _ in chosen])


def random_lots(seed, many, most=0):
    """Some lots of four and five integers a row, the same ones for the same seed."""
    source = random.Random(seed)
    return [random_lot(source, source.choice((4, 5)), most) for _ in range(many)]


def circles(rows):
    """The sets of rows that are dependent while no fewer of them are."""
    found = []
    for many in range(2, len(rows[0]) + 2):
        for chosen in combinations(range(len(rows)), many):
            if not any(some <= set(chosen) for some in found) and rank([rows[at] for at in chosen]) < many:
                found.append(frozenset(chosen))
    return found


def is_web(lot):
    """Whether a lot is a web's, by places: relations of which two use each row, all but one of them independent."""
    if len(lot.rows) > max(1, 3 * lot.size - 3):
        return False
    known, left = circles(lot.rows), set(range(len(lot.rows)))
    while left:
        piece = {left.pop()}
        while any(some & piece and not some <= piece for some in known):
            piece = piece.union(*[some for some in known if some & piece])
        left -= piece
        mine = [some for some in known if some <= piece]
        many = len(piece) - rank([lot.rows[at] for at in piece]) + 1
        if many > 2 and not covered(mine, {at: 2 for at in piece}, many, []):
            return False
    return True


def covered(known, need, many, taken):
    """Whether so many more of the known sets, independent but for the last, hold each row as often as it is needed."""
    if not any(need.values()):
        return many == 0
    ways = {at: [some for some in known if at in some] for at, times in need.items() if times}
    if many == 0 or any(len(some) < need[at] for at, some in ways.items()):
        return False
    left = known
    for some in min(ways.values(), key=len):
        left = [other for other in left if other != some]
        rest = {at: times - (at in some) for at, times in need.items()}
        fits = [other for other in left if all(rest[at] for at in other)]
        if (many == 1 or is_independent(taken, some)) and covered(fits, rest, many - 1, taken + [some]):
            return True
    return False


def is_independent(taken, some):
    """Whether a set is no sum, of odd and even, of those taken."""
    left = list(taken) + [some]
    while left:
        first, rest = left[0], left[1:]
        if not first:
            return False
        lead = min(first)
        left = [other ^ first if lead in other else other for other in rest]
    return True


def are_heights(names, numbers):
    """Whether heights of names tell these numbers, each as the height of one name less that of the other."""
    known = {0: 0}
    for _ in range(2):
        for (one, other), number in zip(names, numbers):
            if one in known:
                known.setdefault(other, known[one] - number)
            if other in known:
                known.setdefault(one, known[other] + number)
    return all(known[one] - known[other] == number for (one, other), number in zip(names, numbers))


def shows_it(lot, kept, idle, names):
    """Whether rows and names show K5 or K33 in a lot, by the three conditions, straight from their words."""
    pairs = sorted(names)
    if pairs not in (list(combinations(range(5), 2)), list(product(range(3), range(3, 6)))):
        return False
    points = points_at(lot.size, [lot.rows[at] for at in idle])
    if len(points) != pairs[-1][1]:
        return False
    lists = [[shared(lot.rows[at], point) for at in kept] for point in points]
    if rank(lists) < len(points):
        return False
    for signs in product((1, -1), repeat=len(kept)):
        if all(are_heights(names, [sign * number for sign, number in zip(signs, some)]) for some in lists):
            return True
    return False


def points_at(size, rows):
    """Points of which all points are made up at which these rows are 0: of the others one is left at each row, by Euclid."""
    points = one_of(size)
    for row in rows:
        while len(other := [point for point in points if shared(row, point)]) > 1:
            low, high = sorted(other, key=lambda point: abs(shared(row, point)))[:2]
            times = shared(row, high) // shared(row, low)
            points = [[a - times * b for a, b in zip(point, low)] if point == high else point for point in points]
        points = [point for point in points if not shared(row, point)]
    return points


def product_of(one, other):
    """Two squares of integers, multiplied index by index and added up."""
    return sum(shared(row, by) for row, by in zip(one, other))


def square(row):
    """A row's square."""
    return [[one * other for other in row] for one in row]


def bars_it(table, small, bar):
    """Whether a bar is right, by the words of the document, of a table with these small rows."""
    if any(bar[at][by] != bar[by][at] for at in range(table.size) for by in range(at)):
        return False
    return product_of(bar, table.rows) < 0 and all(product_of(bar, square(row)) >= 0 for row in small)


def padded(rows, size):
    """The rows of a table with more rows and columns, of noughts."""
    more = size - len(rows)
    return [list(row) + [0] * more for row in rows] + [[0] * size for _ in range(more)]


def star_tables():
    """Tables of no lot: four stars, and the first with the square of a row of five integers added some times."""
    star, found = STARS[0].rows, list(STARS)
    for many in (1, 2, 3, 7):
        rows = padded(star, 5)
        rows[4][4] = many
        found.append(Table(rows))
    # Each such row is small for the table, and no other one is.
    for row in product((-1, 0, 1), repeat=5):
        if row[4] == 1:
            rows = padded(star, 5)
            found.append(Table([[rows[at][by] + 2 * row[at] * row[by] for by in range(5)] for at in range(5)]))
    return found
