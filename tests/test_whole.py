"""The whole program: for webs, all roads by which something is told of them come to the same."""

import random
import unittest
from itertools import combinations

from flowtells.alike import alike
from flowtells.bars import lot
from flowtells.bonds import relations
from flowtells.check_alike import shows_alike, shows_same
from flowtells.check_grown import shows_grown
from flowtells.check_lots import shows_lot
from flowtells.check_plane import shows_plane
from flowtells.check_told import shows_told
from flowtells.check_unwebbed import shows_unwebbed
from flowtells.classes import least
from flowtells.flows import flow_basis, flow_table, in_rounds, is_flow, shows_in_rounds
from flowtells.grown import Grown, grown
from flowtells.lots import lot_of
from flowtells.pieces import beside, in_a_row
from flowtells.plane import plane
from flowtells.pulls import pull_basis, pull_table
from flowtells.rounds import alone, numbers
from flowtells.rows import small_rows
from flowtells.same import same
from flowtells.shortened import shortened, shows_shortened
from flowtells.tables import Table
from flowtells.told import told
from flowtells.trees import many_trees
from flowtells.unwebbed import unwebbed
from flowtells.webs import Web, bonds, rounds
from tests.grown_oracles import CUBES, shapes
from tests.helpers import Case
from tests.oracles import all_trees
from tests.table_oracles import basis_of, combined, pull_webs, shared


def in_rows(web, times):
    """The web in which each tie stands so many times in a row."""
    ties, places = [], web.places
    for (one, other), many in zip(web.ties, times):
        stops = [one] + list(range(places, places + many - 1)) + [other]
        places += many - 1
        ties.extend(zip(stops, stops[1:]))
    return Web(places, ties)


def used(numbers_of_ties):
    """The ties at which some numbers are not 0."""
    return tuple(tie for tie, number in enumerate(numbers_of_ties) if number)


class Roads(Case):

    def asks(self, web, basis, far):
        """All that is told of the table of these flows of a web."""
        self.asks_rounds(web, basis, far)
        self.asks_rows(web, basis, far)
        self.asks_told(web, basis, far)
        self.assertEqual(far.determinant, many_trees(web))

    def asks_rounds(self, web, basis, far):
        circles = [combined(point, basis) for point in alone(far)]
        self.assertEqual(sorted(used(circle) for circle in circles), list(rounds(web)))
        for circle in circles:
            self.assertTrue(is_flow(web, circle))
            self.assertLessEqual({abs(number) for number in circle}, {0, 1})
            paper = in_rounds(web, circle)
            self.assertEqual(paper.pairs, ((circle, 1),))
        for _, length, points in least(far):
            for point in points:
                flow = combined(point, basis)
                self.assertEqual([len(used(flow)), max(map(abs, flow))], [length, 1])
                self.assertTrue(shows_in_rounds(web, flow, in_rounds(web, flow)))

    def asks_rows(self, web, basis, far):
        columns = list(zip(*basis))
        groups = {columns[row[0]]: len(row) for row in in_a_row(web)}
        found = lot(far)
        self.assertTrue(shows_lot(far, found))
        self.assertEqual(found.lot.rows, small_rows(far))
        self.assertEqual(sorted(found.lot.times), sorted(groups.values()))
        for row, many in groups.items():
            told_row = row if row in found.lot.rows else tuple(-number for number in row)
            self.assertEqual(found.lot.times[found.lot.rows.index(told_row)], many)
        sorts = {tuple(number % 2 for number in row): many for row, many in groups.items()}
        self.assertEqual(numbers(far), tuple((sort, sorts[sort], 1) for sort in sorted(sorts)))

    def asks_told(self, web, basis, far):
        paper = told(far)
        self.assertIs(type(paper), Grown)
        self.assertEqual([shows_told(far, paper), shows_grown(lot(far).lot, paper), unwebbed(lot(far).lot)], [True, True, None])
        self.assertEqual(len(relations(lot(far).lot)), len(bonds(paper.web)))
        if sum(paper.times) <= 12:
            longer = in_rows(paper.web, paper.times)
            put = alike(web, longer)
            self.assertTrue(put and shows_alike(web, longer, put))
            one = same(flow_table(longer), far)
            self.assertTrue(one and shows_same(flow_table(longer), far, one))
        near = shortened(far)
        self.assertTrue(shows_shortened(far, near) and same(near.table, far))

    def test_small_webs(self):
        source = random.Random(401)
        for web in shapes(402, 25):
            basis = flow_basis(web)
            self.asks(web, basis, flow_table(web))
            for most in (0, source.choice((2, 9))):
                points = basis_of(source, len(basis), most)
                self.asks(web, [combined(point, basis) for point in points], flow_table(web).changed(points))

    def test_cubes(self):
        source = random.Random(403)
        for web in CUBES:
            points = basis_of(source, 5, 15)
            self.asks(web, [combined(point, flow_basis(web)) for point in points], flow_table(web).changed(points))

    def test_trees(self):
        for web in [web for web in shapes(404, 10) if len(web.ties) < 9]:
            self.assertEqual([many_trees(web), flow_table(web).determinant], [len(all_trees(web))] * 2)

    def test_lots_of_webs(self):
        for web in shapes(405, 10):
            self.assertEqual(lot(flow_table(web)).lot, lot_of(web))
            self.assertEqual(told(flow_table(web)), grown(lot_of(web)))

    def test_pairs_of_webs(self):
        webs = shapes(406, 6)[::2]
        for one, other in combinations(webs, 2):
            tables = flow_table(one), flow_table(other)
            self.assertEqual(bool(same(*tables)), bool(alike(one, other)))
            first, second = told(tables[0]), told(tables[1])
            if sorted(first.times) != sorted(second.times):
                self.assertFalse(alike(one, other))
            if alike(one, other):
                self.assertTrue(alike(first.web, second.web))


class Pulls(Case):

    def test_bonds_and_planes(self):
        source = random.Random(407)
        for web in pull_webs():
            basis = pull_basis(web)
            points = basis_of(source, len(basis), source.choice((0, 3, 9)))
            lists = [combined(point, basis) for point in points]
            far = pull_table(web).changed(points)
            self.assertEqual(sorted(used(combined(point, lists)) for point in alone(far)), list(bonds(web)))
            self.assertEqual(sorted(lot(far).lot.times), sorted(map(len, beside(web))))
            self.assertEqual(far.determinant, many_trees(web))
            self.assertTrue(all(shared(flow, pull) == 0 for flow in flow_basis(web) for pull in lists))
            paper, flat = told(far), plane(web)
            self.assertTrue(shows_told(far, paper) and shows_plane(web, flat))
            self.assertIs(type(paper) is Grown, bool(flat))
            if flat:
                self.assertTrue(alike(in_rows(paper.web, paper.times), flat.sides))
                self.assertTrue(same(flow_table(flat.sides), far))
            else:
                self.assertTrue(shows_unwebbed(lot(far).lot, paper))
                self.assertEqual(unwebbed(lot(far).lot), paper)

    def test_a_web_of_sides_and_back(self):
        for web in [web for web in shapes(408, 10) if web.places < 7 and len(web.ties) - web.places + 1 < 6]:
            flat = plane(web)
            if flat and all(one != other for one, other in web.ties) and 1 < flat.sides.places < 7 and plane(flat.sides):
                # A bridge goes with a loop, which has no tie in the second web of sides; alike webs may differ in bridges.
                self.assertTrue(alike(plane(flat.sides).sides, web))


class Fixed(Case):

    def test_tables_and_webs_stay(self):
        for web in shapes(409, 3)[::4]:
            table = flow_table(web)
            before = [web.places, web.ties, table.rows, table.size, table.determinant]
            for call in (rounds, bonds, in_a_row, flow_basis, plane if web.places < 7 else rounds):
                call(web)
            for call in (least, alone, numbers, small_rows, lot, told, shortened):
                call(table)
            alike(web, web)
            same(table, Table(table.rows))
            self.assertEqual([web.places, web.ties, table.rows, table.size, table.determinant], before)


if __name__ == "__main__":
    unittest.main()
