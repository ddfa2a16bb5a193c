"""Short bases, and the layers of a table, by fractions."""

import random
import unittest
from fractions import Fraction
from math import floor

from flowtells.bases import (
    by_basis, first_independent, layers_of, lessened, made_of, nearest, short_basis, unit_points)
from flowtells.classes import last_below
from flowtells.rows import rows_with
from tests.helpers import GREAT, Case
from tests.oracles import determinant
from tests.table_oracles import HAND_TABLES, changed, far_tables, some_tables


def taken_out(rows):
    """The rows of what the points behind the first one share, by fractions, when made orthogonal to it."""
    top = rows[0]
    return [[row[at] - Fraction(row[0]) * top[at] / top[0] for at in range(1, len(row))] for row in rows[1:]]


class Parts(Case):

    def test_nearest(self):
        for top in range(-30, 31):
            for bottom in range(1, 8):
                self.assertLessEqual(abs(Fraction(top, bottom) - nearest(top, bottom)), Fraction(1, 2))
        self.same_kind([nearest(GREAT * 7 + 3, 7), nearest(GREAT * 7 + 4, 7)], [GREAT, GREAT + 1])

    def test_points(self):
        self.same_kind([unit_points(1), unit_points(2)], [[[1]], [[1, 0], [0, 1]]])
        self.same_kind(made_of([(1, 2), (3, -4)], (5, -6)), (-13, 34))
        self.same_kind(lessened([1, 2], (3, -4), 5), [-14, 22])

    def test_layers(self):
        for table in some_tables(111, 20):
            layers, wanted, scale = layers_of(table.rows), table.rows, 1
            self.assertEqual(len(layers), table.size)
            for layer in layers:
                self.assertEqual([list(row) for row in layer], [[scale * number for number in row] for row in wanted])
                wanted, scale = taken_out(wanted), layer[0][0]

    def test_last_below(self):
        source = random.Random(112)
        for _ in range(500):
            layer = [[source.randint(1, 9)] + [source.randint(-9, 9) for _ in range(2)]]
            end, odd = (source.randint(-5, 5), source.randint(-5, 5)), source.randint(0, 1)
            middle = Fraction(-layer[0][1] * end[0] - layer[0][2] * end[1], layer[0][0])
            found = last_below(layer, odd, end)
            self.assertEqual(found % 2, odd)
            self.assertTrue(found <= middle < found + 2)
            self.assertEqual(found, 2 * floor((middle - odd) / 2) + odd)

    def test_rows_by_what_they_are_at_points(self):
        self.same_kind(rows_with([(1, 1), (1, -1)], [(1, 1), (1, 0), (0, 1), (1, -1)]), [[1, 0], [0, 1]])
        self.same_kind(rows_with([(0, 1), (1, 0)], [(1, -1)]), [[-1, 1]])
        self.same_kind(rows_with([(3,)], [(1,), (0,), (-3,), (6,)]), [[0], [-1], [2]])

    def test_independent_points(self):
        self.same_kind(first_independent([(0, 0), (0, 2), (0, -3), (1, 5), (1, 0)]), [(0, 2), (1, 5)])
        self.same_kind(first_independent([(1, 1, 0), (0, 1, 1), (1, 2, 1), (1, 0, -1), (0, 0, 1), (1, 0, 0)]),
                       [(1, 1, 0), (0, 1, 1), (0, 0, 1)])


class Short(Case):

    def asks(self, table):
        rows, points = short_basis(table.rows)
        self.assertIn(determinant(points), (1, -1))
        self.assertEqual(tuple(map(tuple, rows)), changed(table.rows, points))
        left = rows
        while len(left) > 1:
            for number in left[0][1:]:
                self.assertLessEqual(2 * abs(number), left[0][0])
            self.assertGreaterEqual(4 * left[1][1], 3 * left[0][0])
            left = taken_out(left)

    def test_tables(self):
        for table in some_tables(113, 40):
            self.asks(table)

    def test_far_tables(self):
        for most in (1, 9, 20):
            for _, _, far in far_tables(114, HAND_TABLES, most):
                self.asks(far)


if __name__ == "__main__":
    unittest.main()
