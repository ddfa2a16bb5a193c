"""Determinants, against the sum over all orders of the columns."""

import random
import unittest
from itertools import permutations, product

from flowtells.determinants import determinant_of
from tests.helpers import GREAT, Case
from tests.oracles import determinant


class Determinants(Case):

    def test_no_row_and_one(self):
        self.same_kind([determinant_of([]), determinant_of(()), determinant_of([[-7]]), determinant_of(((0,),))],
                       [1, 1, -7, 0])

    def test_all_small_rows(self):
        for numbers in product((-1, 0, 2), repeat=4):
            rows = [numbers[:2], numbers[2:]]
            self.same_kind(determinant_of(rows), determinant(rows))

    def test_rows_with_many_noughts(self):
        source = random.Random(22)
        for size in range(2, 7):
            for _ in range(60):
                rows = [[source.choice((0, 0, 0, 1, -2, GREAT)) for _ in range(size)] for _ in range(size)]
                self.same_kind(determinant_of(rows), determinant(rows))
                self.same_kind(determinant_of(tuple(map(tuple, rows))), determinant(rows))

    def test_orders_of_rows(self):
        for order in permutations(range(4)):
            rows = [[int(at == by) for by in range(4)] for at in order]
            self.same_kind(determinant_of(rows), determinant(rows))

    def test_what_is_passed_stays(self):
        rows = [[0, 1], [2, 3]]
        determinant_of(rows)
        self.same_kind(rows, [[0, 1], [2, 3]])


if __name__ == "__main__":
    unittest.main()
