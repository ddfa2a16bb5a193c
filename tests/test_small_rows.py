"""Small rows, against a search and against the ties of webs."""

import random
import unittest
from fractions import Fraction

from flowtells.errors import BadTable
from flowtells.flows import flow_basis, flow_table
from flowtells.pieces import beside
from flowtells.pulls import pull_basis, pull_table
from flowtells.rows import small_rows
from flowtells.shortened import shortened
from flowtells.tables import Table
from flowtells.webs import bridges
from tests.helpers import GREAT, Case, not_tables
from tests.oracles import full
from tests.table_oracles import (
    HAND_TABLES, STARS, basis_of, changed, combined, far_tables, flow_webs, one_of, pull_webs, searched, shared,
    small_by_search, some_tables, told)


def rank(rows):
    """How many of these lists are independent."""
    left, found = [[Fraction(number) for number in row] for row in rows], 0
    while left and left[0]:
        lead = next((row for row in left if row[0] != 0), None)
        if lead is None:
            left = [row[1:] for row in left]
        else:
            rest = [row for row in left if row is not lead]
            left = [[number - by * row[0] / lead[0] for number, by in zip(row, lead)][1:] for row in rest]
            found += 1
    return found


def rows_of(basis, ties):
    """What each of these ties has in the flows or pulls of a basis, as rows are told."""
    return tuple(sorted({told([numbers[tie] for numbers in basis]) for tie in ties}))


class BySearch(Case):

    def test_tables(self):
        for table in searched([shortened(table).table for table in some_tables(91, 60)]):
            with self.subTest(rows=table.rows):
                self.same_kind(small_rows(table), small_by_search(table.rows, 3))

    def test_of_one_kind(self):
        self.same_kind(small_rows(Table([[2, 0], [0, 2]])), ((0, 1), (1, 0)))
        self.same_kind(small_rows(Table(one_of(5))), tuple(sorted(map(tuple, one_of(5)))))
        for number in (1, 13, GREAT):
            self.same_kind(small_rows(Table([[number]])), ((1,),))
            self.same_kind(small_rows(Table([[2, 1], [1, number + 5]])), ((0, 1), (1, 0), (1, 1)))

    def test_tables_without_small_rows(self):
        self.assertEqual([small_rows(star) for star in STARS], [()] * 4)
        for _, _, far in far_tables(92, STARS, 15):
            self.same_kind(small_rows(far), ())


class OfWebs(Case):

    def asks(self, source, table, basis, ties):
        self.same_kind(small_rows(table), rows_of(basis, ties))
        for most in (0, 3, 18):
            points = basis_of(source, table.size, most)
            far = Table(changed(table.rows, points))
            self.same_kind(small_rows(far), rows_of([combined(point, basis) for point in points], ties))

    def test_flows(self):
        source = random.Random(93)
        for web in flow_webs():
            ties = [tie for tie in range(len(web.ties)) if tie not in bridges(web)]
            self.asks(source, flow_table(web), flow_basis(web), ties)

    def test_pulls(self):
        source = random.Random(94)
        for web in pull_webs():
            ties = [tie for tie, ends in enumerate(web.ties) if ends[0] != ends[1]]
            self.asks(source, pull_table(web), pull_basis(web), ties)
            self.assertEqual(len(small_rows(pull_table(web))), len(beside(web)))

    def test_ten_and_fifteen(self):
        self.assertEqual(len(small_rows(pull_table(full(5)))), 10)
        # K6 has more ties than a web may have; its table of pulls is this one.
        table = Table([[5 if at == by else -1 for by in range(5)] for at in range(5)])
        self.assertEqual(len(small_rows(table)), 15)


class Rows(Case):

    def test_changed_tables(self):
        for table, points, far in far_tables(95, some_tables(96, 20), 9):
            wanted = sorted(told([shared(row, point) for point in points]) for row in small_rows(table))
            self.same_kind(small_rows(far), tuple(wanted))

    def test_squares_are_independent(self):
        for table in some_tables(97, 40):
            squares = [[a * b for at, a in enumerate(row) for b in row[at:]] for row in small_rows(table)]
            self.assertLessEqual(len(squares), table.size * (table.size + 1) // 2)
            if squares:
                self.assertEqual(rank(squares), len(squares))

    def test_by_name_and_again(self):
        for table in HAND_TABLES:
            self.same_kind(small_rows(table=table), small_rows(Table(table.rows)))


class Refused(Case):

    def test_what_is_no_table(self):
        for value in not_tables():
            self.refuses(BadTable, {"part": "table"}, small_rows, value)


if __name__ == "__main__":
    unittest.main()
