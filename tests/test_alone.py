"""Points that are alone, and the numbers of sorts, against webs and against the words of the document."""

import random
import unittest
from fractions import Fraction
from math import gcd

from flowtells.errors import BadTable
from flowtells.flows import flow_basis, flow_table
from flowtells.pieces import beside, in_a_row
from flowtells.pulls import pull_basis, pull_table
from flowtells.rounds import alone, numbers
from flowtells.tables import Table
from flowtells.webs import bonds, rounds
from tests.helpers import GREAT, Case, not_tables
from tests.table_oracles import (
    HAND_TABLES, STARS, basis_of, changed, combined, far_tables, flow_webs, least_by_search, numbers_by_search, one_of,
    pull_webs, searched, shared, some_tables, told)


def alone_by_search(table):
    """What alone should return, by search."""
    found = [(length, told(points[0])) for length, points in least_by_search(table.rows).values() if len(points) == 2]
    return tuple(point for _, point in sorted(found))


class BySearch(Case):

    def test_alone(self):
        for table in searched(some_tables(71, 40)):
            with self.subTest(rows=table.rows):
                self.same_kind(alone(table), alone_by_search(table))

    def test_numbers(self):
        for table in searched(some_tables(72, 40)):
            with self.subTest(rows=table.rows):
                wanted = [(sort, number.numerator, number.denominator)
                          for sort, number in sorted(numbers_by_search(table.rows).items())]
                self.same_kind(numbers(table), tuple(wanted))

    def test_by_name_and_again(self):
        for table in HAND_TABLES:
            self.same_kind([alone(table=table), numbers(table=table)], [alone(table), numbers(table)])


class OfWebs(Case):
    """In each basis what stands alone are the rounds, and sorts tell how many ties are in a row."""

    def asks(self, table, basis, circles, tuples):
        lists = [combined(point, basis) for point in alone(table)]
        found = [tuple(tie for tie, number in enumerate(some) if number != 0) for some in lists]
        self.assertEqual(sorted(found), sorted(circles))
        self.assertEqual([len(some) for some in found], sorted(len(some) for some in found))
        for some in lists:
            self.assertTrue(set(some) <= {-1, 0, 1})
        wanted = [(tuple(some[ties[0]] % 2 for some in basis), len(ties), 1) for ties in tuples]
        self.same_kind(numbers(table), tuple(sorted(wanted)))

    def test_flows(self):
        source = random.Random(73)
        for web in flow_webs():
            table, basis = flow_table(web), flow_basis(web)
            self.asks(table, basis, rounds(web), in_a_row(web))
            for most in (0, 3, 18):
                points = basis_of(source, table.size, most)
                self.asks(Table(changed(table.rows, points)), [combined(point, basis) for point in points],
                          rounds(web), in_a_row(web))

    def test_pulls(self):
        source = random.Random(74)
        for web in pull_webs():
            table, basis = pull_table(web), pull_basis(web)
            self.asks(table, basis, bonds(web), beside(web))
            for most in (0, 3, 18):
                points = basis_of(source, table.size, most)
                self.asks(Table(changed(table.rows, points)), [combined(point, basis) for point in points],
                          bonds(web), beside(web))


class Alone(Case):

    def test_order(self):
        for _, _, table in far_tables(75, some_tables(76, 20), 9):
            found = alone(table)
            self.assertEqual(list(found), [point for _, point in sorted((table.length(point), point) for point in found)])
            for point in found:
                self.assertEqual(point, told(point))

    def test_some_of_a_class_are_no_longer_alone(self):
        self.same_kind(alone(Table([[2, 0], [0, 2]])), ((0, 1), (1, 0)))
        self.same_kind(alone(Table([[2, 1], [1, 2]])), ((0, 1), (1, -1), (1, 0)))
        self.same_kind(alone(Table(one_of(5))), tuple(sorted(map(tuple, one_of(5)))))
        self.assertEqual([len(alone(star)) for star in STARS], [12, 20, 12, 21])

    def test_one_row(self):
        for number in (1, 13, GREAT):
            self.same_kind(alone(Table([[number]])), ((1,),))


class Numbers(Case):

    def test_fractions_and_numbers_below_nought(self):
        found = numbers(STARS[0])
        self.assertEqual(sorted(row[1:] for row in found), [(-1, 2)] * 3 + [(1, 2)] * 12)
        for table in some_tables(77, 40):
            for sort, top, bottom in numbers(table):
                self.assertTrue(top != 0 and bottom > 0 and gcd(top, bottom) == 1 and any(sort))
                self.assertIn(bottom, (1, 2, 4, 8, 16))

    def test_great_integers(self):
        self.same_kind(numbers(Table([[GREAT]])), (((1,), GREAT, 1),))
        self.same_kind(numbers(Table([[2, 1], [1, GREAT]])), (((0, 1), GREAT - 1, 1), ((1, 0), 1, 1), ((1, 1), 1, 1)))

    def test_all_numbers_add_up(self):
        for table in searched(some_tables(78, 20)):
            lengths = [length for length, _ in least_by_search(table.rows).values()]
            total = sum(Fraction(top, bottom) for _, top, bottom in numbers(table))
            self.assertEqual(total, Fraction(sum(lengths), 2 ** (table.size - 1)))

    def test_the_length_of_a_class(self):
        for table in searched(some_tables(79, 20)):
            found = numbers(table)
            for kind, (length, _) in least_by_search(table.rows).items():
                meets = [Fraction(top, bottom) for sort, top, bottom in found if shared(sort, kind) % 2]
                self.assertEqual(sum(meets), length)

    def test_a_changed_table(self):
        for table, points, far in far_tables(80, some_tables(81, 20), 9):
            wanted = {tuple(shared(sort, point) % 2 for point in points): (top, bottom)
                      for sort, top, bottom in numbers(table)}
            self.assertEqual({sort: (top, bottom) for sort, top, bottom in numbers(far)}, wanted)

    def test_three_rows_have_integers_from_nought_on(self):
        for table in some_tables(82, 60):
            if table.size <= 3:
                self.assertTrue(all(top > 0 and bottom == 1 for _, top, bottom in numbers(table)))


class Refused(Case):

    def test_what_is_no_table(self):
        for value in not_tables():
            self.refuses(BadTable, {"part": "table"}, alone, value)
            self.refuses(BadTable, {"part": "table"}, numbers, value)


if __name__ == "__main__":
    unittest.main()
