"""Tables: what makes one, lengths, what points share, changed tables."""

import random
import unittest
from fractions import Fraction
from itertools import product

from flowtells.errors import BadNumber, BadTable
from flowtells.tables import Table
from tests.helpers import GREAT, Case, Odd, not_integers, not_lists
from tests.oracles import determinant

FIVE = [[5, 1, 0, -1, 2], [1, 4, 1, 0, 0], [0, 1, 3, 1, -1], [-1, 0, 1, 6, 1], [2, 0, -1, 1, 7]]


class Board(Table):
    """A class below Table: its values are of another class."""


def is_above(rows):
    """Whether all points but noughts have a length above 0: take squares off, one integer after another."""
    left = [[Fraction(number) for number in row] for row in rows]
    while left:
        if left[0][0] <= 0:
            return False
        left = [[left[at][by] - left[at][0] * left[0][by] / left[0][0] for by in range(1, len(left))]
                for at in range(1, len(left))]
    return True


def squares(points):
    """What any two of these lists of integers share: a table's rows exactly if no sum of them is noughts."""
    return [[sum(a * b for a, b in zip(one, other)) for other in points] for one in points]


def one_of(size):
    """The rows with 1 where row and column are one, else 0."""
    return [[int(at == by) for by in range(size)] for at in range(size)]


class Making(Case):

    def test_attributes(self):
        for rows in ([[2, -1], [-1, 2]], ((2, -1), (-1, 2)), [(2, -1), [-1, 2]], ([2, -1], (-1, 2))):
            table = Table(rows)
            self.same_kind([table.rows, table.size, table.determinant], [((2, -1), (-1, 2)), 2, 3])
        self.same_kind(Table(rows=[[7]]).rows, ((7,),))

    def test_one_to_five_rows_and_six(self):
        for size in range(1, 6):
            table = Table(one_of(size))
            self.same_kind([table.size, table.determinant], [size, 1])
            rows = [row[:size] for row in FIVE[:size]]
            self.same_kind(Table(rows).determinant, determinant(rows))
        self.refuses(BadTable, {"part": "rows"}, Table, one_of(6))
        self.refuses(BadTable, {"part": "rows"}, Table, [])
        self.refuses(BadTable, {"part": "rows"}, Table, ())

    def test_what_is_no_list_of_rows(self):
        for value in not_lists():
            self.refuses(BadTable, {"part": "rows"}, Table, value)
            self.refuses(BadTable, {"part": "rows"}, Table, [value])
            self.refuses(BadTable, {"part": "rows"}, Table, [[1, 0], value])
            self.refuses(BadTable, {"part": "rows"}, Table, [value, [0, 1]])

    def test_rows_of_another_length(self):
        for rows in ([[]], [[1, 0]], [[1, 0], [0]], [[1], [0, 1]], [[1, 0], [0, 1, 0]], [[1, 0, 0], [0, 1, 0]],
                     [[1, 0], [0, 1], [0, 0]], [1, 0, 0, 1], [[1, [0]], [[0], 1]], [[1, 0], [0, 1], []]):
            self.refuses(BadTable, {"part": "rows"}, Table, rows)

    def test_a_wrong_integer_at_any_place(self):
        for value in not_integers():
            for at, by in product(range(3), repeat=2):
                rows = one_of(3)
                rows[at][by] = value
                self.refuses(BadTable, {"part": "rows"}, Table, rows)

    def test_unlike_at_both_sides(self):
        for at, by in product(range(5), repeat=2):
            rows = [list(row) for row in FIVE]
            rows[at][by] += 1
            if at != by:
                self.refuses(BadTable, {"part": "sides"}, Table, rows)
        self.refuses(BadTable, {"part": "sides"}, Table, [[1, GREAT], [GREAT + 1, GREAT]])

    def test_the_order_where_several_hold(self):
        self.refuses(BadTable, {"part": "rows"}, Table, [[-1, 1], [0, True]])
        self.refuses(BadTable, {"part": "rows"}, Table, [[0] * 6] * 6)
        self.refuses(BadTable, {"part": "sides"}, Table, [[0, 1], [2, 0]])
        self.refuses(BadTable, {"part": "sides"}, Table, [[2, 1], [0, -2]])
        self.refuses(BadTable, {"part": "worth"}, Table, [[0, 1], [1, 0]])

    def test_what_was_passed_may_be_changed_behind(self):
        rows = [[2, -1], [-1, 2]]
        table = Table(rows)
        rows[0][0] = 9
        rows.append([0, 0])
        self.same_kind([table.rows, table.determinant, str(table)], [((2, -1), (-1, 2)), 3, "2 : 2 -1 -1 2"])
        bad = [[1, 2], [2, 3]]
        self.refuses(BadTable, {"part": "worth"}, Table, bad)
        self.same_kind(bad, [[1, 2], [2, 3]])

    def test_equality(self):
        table = Table([[2, -1], [-1, 2]])
        self.assertIs(table == Table(((2, -1), (-1, 2))), True)
        self.assertIs(table != Table([[2, -1], [-1, 2]]), False)
        like = Odd()
        like.rows, like.size, like.determinant = table.rows, 2, 3
        for other in (Table([[2, 1], [1, 2]]), Table([[2]]), Table([[3, 0], [0, 1]]), None, 2, "2 : 2 -1 -1 2",
                      table.rows, [[2, -1], [-1, 2]], like, Board([[2, -1], [-1, 2]])):
            self.assertIs(table == other, False)
            self.assertIs(table != other, True)


class Worth(Case):

    def asks(self, rows):
        """Ask for the table, and for its determinant or its refusal, against other ways of telling."""
        if is_above(rows):
            self.same_kind(Table(rows).determinant, determinant(rows))
        else:
            self.refuses(BadTable, {"part": "worth"}, Table, rows)
        return is_above(rows)

    def test_lengths_of_nought_and_below(self):
        for rows in ([[0]], [[-1]], [[-GREAT]], [[1, 1], [1, 1]], [[1, 2], [2, 3]], [[1, 2], [2, 4]], [[0, 0], [0, 0]],
                     [[1, 0], [0, 0]], [[0, 0], [0, 1]], [[1, 0], [0, -1]], [[-1, 0], [0, -1]], [[-2, 1], [1, -2]],
                     [[0, 1], [1, 5]], [[2, 3], [3, 4]], [[1, -1, 0], [-1, 2, -1], [0, -1, 1]]):
            self.assertIs(self.asks(rows), False)

    def test_two_below_nought_at_once(self):
        for size in range(2, 6):
            for at, by in product(range(size), repeat=2):
                rows = one_of(size)
                rows[at][at], rows[by][by] = -1, -1
                self.assertIs(self.asks(rows), False)

    def test_small_rows_of_all_kinds(self):
        counts = {True: 0, False: 0}
        for a, b, c in product(range(-2, 5), repeat=3):
            counts[self.asks([[a, b], [b, c]])] += 1
        source = random.Random(8)
        for _ in range(1500):
            size = source.randint(3, 5)
            rows = [[source.randint(-2, 2) for _ in range(size)] for _ in range(size)]
            rows = [[rows[max(at, by)][min(at, by)] for by in range(size)] for at in range(size)]
            for at in range(size):
                rows[at][at] = source.randint(0, 5)
            counts[self.asks(rows)] += 1
        self.assertGreater(min(counts.values()), 150)

    def test_great_integers_that_are_much_alike(self):
        for number in (10 ** 39 + 1, 10 ** 40 - 2, 3 ** 80):
            self.assertIs(self.asks([[number, number], [number, number]]), False)
            self.assertIs(self.asks([[number, number], [number, number + 1]]), True)
            self.assertIs(self.asks([[number, number], [number, number - 1]]), False)
            self.assertIs(self.asks([[number + 1, -number], [-number, number - 1]]), False)
            self.assertIs(self.asks([[number + 1, -number], [-number, number]]), True)
        one, other = 10 ** 20 - 3, 10 ** 20 - 7
        self.assertIs(self.asks([[one * one, one * other], [one * other, other * other]]), False)
        self.assertIs(self.asks([[one * one, one * other], [one * other, other * other + 1]]), True)

    def test_great_integers_far_from_each_other(self):
        self.assertIs(self.asks([[1, 10 ** 19], [10 ** 19, 10 ** 38]]), False)
        self.assertIs(self.asks([[1, 10 ** 19], [10 ** 19, 10 ** 38 + 1]]), True)
        self.assertIs(self.asks([[10 ** 39, 0], [0, 1]]), True)
        self.assertIs(self.asks([[10 ** 39, 1], [1, 0]]), False)

    def test_squares_of_great_points(self):
        source = random.Random(9)
        for size in range(2, 6):
            for _ in range(20):
                points = [[source.randint(-10 ** 19, 10 ** 19) for _ in range(size)] for _ in range(size)]
                self.assertIs(self.asks(squares(points)), True)
                low = [number - other for number, other in zip(points[0], points[-1])]
                self.assertIs(self.asks(squares(points[:-1] + [low])), True)
                flat = [sum(point[at] for point in points[:-1]) for at in range(size)]
                self.assertIs(self.asks(squares(points[:-1] + [flat])), False)

    def test_one_less_than_enough(self):
        source = random.Random(10)
        for size in range(1, 6):
            for _ in range(20):
                points = [[source.randint(-9, 9) * 10 ** 18 + at for at in range(size)] for _ in range(size)]
                rows = squares(points)
                rows[-1][-1] += 1
                self.asks(rows)
                if not is_above(rows):
                    continue
                # The last integer at the corner alone decides: find the least one with which it is above 0.
                low, high = 0, rows[-1][-1]
                while low < high:
                    rows[-1][-1] = (low + high) // 2
                    low, high = (low, rows[-1][-1]) if is_above(rows) else (rows[-1][-1] + 1, high)
                rows[-1][-1] = low
                self.assertIs(self.asks(rows), True)
                rows[-1][-1] = low - 1
                self.assertIs(self.asks(rows), False)


class Points(Case):

    def test_lengths_and_what_points_share(self):
        source = random.Random(11)
        for size in range(1, 6):
            rows = [row[:size] for row in FIVE[:size]]
            table = Table(rows)
            for _ in range(20):
                one = [source.randint(-5, 5) for _ in range(size)]
                other = tuple(source.randint(-GREAT, GREAT) for _ in range(size))
                wanted = sum(one[at] * other[by] * rows[at][by] for at, by in product(range(size), repeat=2))
                self.same_kind(table.share(one, other), wanted)
                self.same_kind(table.share(other, one), wanted)
                self.same_kind(table.length(one), table.share(one, one))
        table = Table([[2, -1], [-1, 3]])
        self.same_kind([table.length((1, 0)), table.length(point=[0, 1]), table.length([0, 0])], [2, 3, 0])
        self.same_kind(table.share(other=[0, 1], one=(1, 0)), -1)

    def test_what_is_no_point(self):
        table = Table([[2, -1], [-1, 2]])
        wrong = not_lists() + [[], [1], (1,), [1, 2, 3], [[1, 2]], [[1], [2]]]
        wrong += [[value, 1] for value in not_integers()] + [(1, value) for value in not_integers()]
        for value in wrong:
            self.refuses(BadNumber, {"part": "point"}, table.length, value)
            self.refuses(BadNumber, {"part": "one"}, table.share, value, [1, 1])
            self.refuses(BadNumber, {"part": "other"}, table.share, [1, 1], value)
            self.refuses(BadNumber, {"part": "one"}, table.share, value, value)

    def test_what_was_passed_stays(self):
        table, one, other = Table([[2, -1], [-1, 2]]), [1, 2], [3, 4]
        table.share(one, other)
        table.length(one)
        self.same_kind([one, other, table.rows], [[1, 2], [3, 4], ((2, -1), (-1, 2))])


class Changed(Case):

    def test_against_shares(self):
        source = random.Random(12)
        for size in range(1, 6):
            table = Table([row[:size] for row in FIVE[:size]])
            for _ in range(20):
                points = basis(source, size)
                found = table.changed(points)
                self.assertIs(type(found), Table)
                self.same_kind(found.rows, tuple(tuple(table.share(p, q) for q in points) for p in points))
                self.same_kind([found.size, found.determinant], [size, table.determinant])
                self.assertEqual(table.changed(points=tuple(map(tuple, points))), found)

    def test_determinants_of_one_and_minus_one(self):
        table = Table([[3, -2], [-2, 5]])
        self.same_kind(table.changed([(0, 1), (1, 0)]).rows, ((5, -2), (-2, 3)))
        self.same_kind(table.changed([[1, 0], [0, 1]]).rows, table.rows)
        self.same_kind(Table([[3]]).changed([[-1]]).rows, ((3,),))

    def test_points_that_are_no_basis(self):
        table = Table([[3, -2], [-2, 5]])
        for points in ([[0, 0], [0, 0]], [[1, 1], [1, 1]], [[1, 0], [0, 2]], [(1, 1), (1, -1)], [[2, 1], [1, 2]],
                       [[0, 0], [0, 1]], [[GREAT, 0], [0, 1]]):
            self.refuses(BadNumber, {"part": "determinant"}, table.changed, points)
        for points in ([[0]], [[2]], [[-2]]):
            self.refuses(BadNumber, {"part": "determinant"}, Table([[3]]).changed, points)
        threes = [[0, 1, 1], [1, 0, 1], [1, 1, 0]]
        self.refuses(BadNumber, {"part": "determinant"}, Table(one_of(3)).changed, threes)

    def test_what_are_no_points(self):
        table = Table([[3, -2], [-2, 5]])
        wrong = not_lists() + [[], [[1, 0]], [[1, 0], [0, 1], [0, 0]], [[1, 0, 0], [0, 1, 0]], [[1], [0]], [1, 0, 0, 1]]
        for value in not_lists() + [[], [1], [1, 0, 0]]:
            wrong += [[[1, 0], value], (value, (0, 1))]
        for value in not_integers():
            wrong += [[[1, value], [0, 1]], [[1, 0], [0, value]], ((1, 0), (value, 1))]
        for value in wrong:
            self.refuses(BadNumber, {"part": "points"}, table.changed, value)

    def test_great_points(self):
        table = Table([[GREAT, GREAT - 1], [GREAT - 1, GREAT]])
        found = table.changed([[1, -1], [GREAT, 1 - GREAT]])
        self.assertEqual(found.rows[0][0], 2)
        self.assertEqual(found.determinant, 2 * GREAT - 1)

    def test_what_was_passed_stays(self):
        table, points = Table([[3, -2], [-2, 5]]), [[1, 0], [1, 1]]
        found = table.changed(points)
        points[0][0] = 7
        self.same_kind([found.rows, table.rows], [((3, 1), (1, 4)), ((3, -2), (-2, 5))])
        self.refuses(BadNumber, {"part": "determinant"}, table.changed, points)
        self.same_kind([points, table.rows], [[[7, 0], [1, 1]], ((3, -2), (-2, 5))])


def basis(source, size):
    """Points that are a basis: come of 1 and 0 by adding one point to another, and by changing their order."""
    points = one_of(size)
    for _ in range(3 * size if size > 1 else 0):
        one, other = source.sample(range(size), 2)
        times = source.randint(-2, 2)
        points[one] = [a + times * b for a, b in zip(points[one], points[other])]
    source.shuffle(points)
    return points


if __name__ == "__main__":
    unittest.main()
