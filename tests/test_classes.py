"""Least points of classes, against a search of all points that are not too far out."""

import random
import unittest

from flowtells.classes import least
from flowtells.errors import BadTable
from flowtells.flows import flow_basis, flow_table
from flowtells.pulls import pull_basis, pull_table
from flowtells.tables import Table
from tests.helpers import GREAT, Case, not_tables
from tests.table_oracles import (
    HAND_TABLES, STARS, combined, far_tables, flow_webs, least_by_search, meets, one_of, pull_webs, random_table, searched,
    some_tables)


def by_search(table):
    """What least should return, by search."""
    return tuple((kind, length, points) for kind, (length, points) in sorted(least_by_search(table.rows).items()))


def classes_of(points):
    """The class of a point, by its odd integers."""
    return tuple(number % 2 for number in points)


class Least(Case):

    def test_tables(self):
        for table in searched(some_tables(61, 60)):
            with self.subTest(rows=table.rows):
                self.same_kind(least(table), by_search(table))

    def test_tables_of_few_rows(self):
        for at in range(1, 6):
            for by in range(1, 6):
                for one in range(-4, 5):
                    if at * by > one * one:
                        table = Table([[at, one], [one, by]])
                        self.same_kind(least(table), by_search(table))

    def test_far_tables(self):
        for most in (1, 4, 12, 20):
            for table, points, far in far_tables(62, some_tables(63, 20), most):
                found = {}
                for kind, length, ends in least(far):
                    self.assertEqual([end for end in ends if classes_of(end) != kind], [])
                    told = sorted(combined(end, points) for end in ends)
                    found[classes_of(told[0])] = (classes_of(told[0]), length, tuple(told))
                self.assertEqual(tuple(found[kind] for kind in sorted(found)), least(table))

    def test_kinds_and_order(self):
        for _, _, table in far_tables(64, some_tables(65, 20), 12):
            found = least(table)
            self.assertEqual(len(found), 2 ** table.size - 1)
            self.assertEqual(list(found), sorted(found))
            for kind, length, points in found:
                self.assertIs(type(points), tuple)
                self.assertEqual(list(points), sorted(set(points)))
                for point in points:
                    self.assertEqual((classes_of(point), meets(table.rows, point, point)), (kind, length))
                    self.assertIn(tuple(-number for number in point), points)
            self.same_kind(least(table=Table(table.rows)), found)

    def test_one_row(self):
        for number in (1, 13, GREAT):
            self.same_kind(least(Table([[number]])), (((1,), number, ((-1,), (1,))),))

    def test_many_least_points_in_a_class(self):
        ones = least(Table(one_of(5)))
        self.assertEqual([len(points) for _, _, points in ones], [2 ** sum(kind) for kind, _, _ in ones])
        self.assertEqual([length for _, length, _ in ones], [sum(kind) for kind, _, _ in ones])
        self.assertEqual(sorted(len(points) for _, _, points in least(STARS[0])), [2] * 12 + [8] * 3)
        self.assertEqual(sorted(len(points) for _, _, points in least(STARS[1])), [2] * 20 + [8] * 10 + [10])

    def test_integers_of_very_unlike_size(self):
        table = Table([[1, 0, 0], [0, 10 ** 19, 0], [0, 0, 10 ** 39]])
        kinds = [kind for kind, _, _ in least(table)]
        self.same_kind([length for _, length, _ in least(table)],
                       [sum(by * 10 ** at for by, at in zip(kind, (0, 19, 39))) for kind in kinds])
        # Of the middle point half of the first one hangs over, of the last one a third of the middle one.
        table = Table([[12, 6, 0], [6, 12 * 10 ** 18, 4 * 10 ** 18], [0, 4 * 10 ** 18, 10 ** 39]])
        for kind, length, points in least(table):
            self.assertEqual({table.length(point) for point in points}, {length})
            for point in points:
                for other in least(table):
                    for by in other[2]:
                        self.assertLessEqual(abs(table.share(point, by)), table.length(by))

    def test_least_by_what_points_share(self):
        # A point is least exactly if with no other point it shares more than that point's own length.
        source = random.Random(66)
        for size in range(2, 6):
            table = random_table(source, size, 10 ** 9)
            found = least(table)
            for kind, _, points in found:
                for _, _, others in found:
                    self.assertTrue(all(abs(table.share(points[0], by)) <= table.length(by) for by in others))


class OfWebs(Case):

    def asks(self, table, basis):
        for kind, length, points in least(table):
            lists = [combined(point, basis) for point in points]
            odd = [at for at in range(len(basis[0])) if lists[0][at] % 2]
            self.assertEqual(length, len(odd))
            for numbers in lists:
                self.assertEqual([abs(number) for number in numbers],
                                 [int(at in odd) for at in range(len(numbers))])

    def test_flows_go_once_along_ties(self):
        for web in flow_webs()[:50]:
            self.asks(flow_table(web), flow_basis(web))

    def test_pulls_of_heights_nought_and_one(self):
        for web in pull_webs()[:50]:
            self.asks(pull_table(web), pull_basis(web))

    def test_far_bases_have_the_same_lengths(self):
        for table, _, far in far_tables(67, HAND_TABLES, 18):
            self.assertEqual(sorted(length for _, length, _ in least(far)),
                             sorted(length for _, length, _ in least(table)))


class Refused(Case):

    def test_what_is_no_table(self):
        for value in not_tables():
            self.refuses(BadTable, {"part": "table"}, least, value)


if __name__ == "__main__":
    unittest.main()
