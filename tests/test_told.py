"""What tables tell: webs, K5 or K33 in lots, bars; each paper is right by the words of the document."""

import random
import unittest
from itertools import combinations

from flowtells.bars import NoLot, lot
from flowtells.check_told import shows_told
from flowtells.errors import BadTable
from flowtells.flows import flow_basis, flow_table
from flowtells.grown import Grown
from flowtells.lots import Lot
from flowtells.pieces import beside, in_a_row
from flowtells.pulls import pull_basis, pull_table
from flowtells.rounds import numbers
from flowtells.rows import small_rows
from flowtells.tables import Table
from flowtells.told import told
from flowtells.trees import many_trees
from flowtells.unwebbed import NoWeb
from flowtells.webs import Web, bonds, rounds
from tests.grown_oracles import CUBES, THREES, bears, by_rows, shapes
from tests.helpers import GREAT, Case, not_tables
from tests.lot_oracles import FULL, KFIVE, KSIX, NEITHER, bars_it, is_web, random_lots, seen_from, shows_it, star_tables
from tests.oracles import all_trees, full
from tests.table_oracles import (
    HAND_TABLES, STARS, basis_of, changed, combined, far_tables, flow_webs, pull_webs, random_table, some_tables)


class Asking(Case):

    def asks(self, table):
        """The paper of a table, which is right by its words, and comes again."""
        rows = table.rows
        paper = told(table)
        self.assertEqual(table.rows, rows)
        if type(paper) is Grown:
            self.assertTrue(bears(paper.web, paper.times, paper.flows, rows), (rows, paper.parts))
        elif type(paper) is NoWeb:
            some = lot(table).lot
            self.assertTrue(shows_it(some, paper.kept, paper.idle, paper.names))
            self.assertFalse(is_web(some))
        else:
            self.assertIs(type(paper), NoLot)
            self.assertTrue(bars_it(table, small_rows(table), paper.bar))
        self.assertIs(bool(paper), type(paper) is Grown)
        self.assertIs(shows_told(table, paper), True)
        self.assertEqual(told(table=Table([list(row) for row in rows])), paper)
        return paper

    def told_as(self, kind, table):
        self.assertIs(type(self.asks(table)), kind, table.rows)


class OfWebs(Asking):

    def asks_web(self, table, lists, circles):
        """The web told has a tie for each tuple of ties with one row in these lists, and the rounds of these ties."""
        paper = self.asks(table)
        self.assertIs(type(paper), Grown)
        groups, ties = by_rows(lists), by_rows(paper.flows)
        self.assertEqual(sorted(groups), sorted(ties))
        goes = {some[0]: groups[row] for row, some in ties.items()}
        self.assertEqual([len(goes[tie]) for tie in range(len(paper.times))], list(paper.times))
        found = [tuple(sorted(tie for one in circle for tie in goes[one])) for circle in rounds(paper.web)]
        self.assertEqual(tuple(sorted(found)), circles)
        return paper

    def asks_bases(self, source, table, lists, circles):
        for most in (None, 0, 3, 18):
            points = [[int(at == by) for by in range(table.size)] for at in range(table.size)]
            if most is not None:
                points = basis_of(source, table.size, most)
            far = Table(changed(table.rows, points))
            self.asks_web(far, [combined(point, lists) for point in points], circles)

    def test_flows(self):
        source = random.Random(241)
        for web in flow_webs():
            paper = self.asks_web(flow_table(web), flow_basis(web), rounds(web))
            self.assertEqual(sorted(paper.times), sorted(map(len, in_a_row(web))))
        for web in shapes(242, 6):
            self.asks_bases(source, flow_table(web), flow_basis(web), rounds(web))

    def test_twelve_ties_and_five_loops(self):
        source = random.Random(243)
        for web in CUBES + [Web(1, [(0, 0)] * 5)]:
            self.asks_bases(source, flow_table(web), flow_basis(web), rounds(web))

    def test_pulls_of_webs_in_the_plane(self):
        # For pulls the rounds of the web that is told are the bonds; loops are left out, ties beside one another one.
        source, asked = random.Random(244), 0
        for web in pull_webs():
            if len(beside(web)) < 9:
                asked += 1
                self.asks_bases(source, pull_table(web), pull_basis(web), bonds(web))
        self.assertGreater(asked, 20)

    def test_trees(self):
        for web in shapes(245, 6):
            table = flow_table(web)
            paper = told(table)
            total = 0
            for tree in all_trees(paper.web):
                worth = 1
                for tie, times in enumerate(paper.times):
                    worth *= times if tie not in tree else 1
                total += worth
            self.assertEqual([total, many_trees(web)], [table.determinant] * 2)

    def test_three_rings_of_two(self):
        star = Web(4, [(0, 1), (0, 1), (0, 2), (0, 2), (0, 3), (0, 3)])
        chain = Web(4, [(0, 1), (1, 0), (1, 2), (1, 2), (2, 3), (2, 3)])
        self.assertEqual([told(flow_table(web)).times for web in (star, chain)], [(2, 2, 2)] * 2)
        self.assertEqual(told(flow_table(star)).web, told(flow_table(chain)).web)


class Classes(Asking):

    def test_one_to_three_rows_are_a_web_s(self):
        source = random.Random(246)
        for size in (1, 2, 3):
            for most in (1, 2, 5, 10 ** 9):
                for _ in range(6):
                    self.told_as(Grown, random_table(source, size, most))
        for number in (1, 2, 13, GREAT):
            self.assertEqual(self.asks(Table([[number]])), Grown(Web(1, [(0, 0)]), [number], [[1]]))

    def test_four_rows(self):
        source, asked = random.Random(247), {Grown: 0, NoWeb: 0, NoLot: 0}
        tables = [random_table(source, 4, 2) for _ in range(60)] + [Table(some_times(source, KFIVE)) for _ in range(6)]
        for table in tables:
            found = numbers(table)
            kind = NoLot if min(top for _, top, _ in found) < 0 else NoWeb if len(found) == 10 else Grown
            asked[kind] += 1
            self.told_as(kind, table)
        self.assertGreater(min(asked.values()), 4)

    def test_five_rows(self):
        source = random.Random(248)
        for some in random_lots(249, 25) + random_lots(250, 10, 9):
            self.told_as(Grown if is_web(some) else NoWeb, some.table)
        for _ in range(20):
            self.asks(random_table(source, 5, 2))

    def test_k5_and_k33(self):
        source = random.Random(251)
        more = [(1, 0, 0, 0, 0)] + [(0,) + row for row in KFIVE]
        for rows in (KFIVE, KSIX, FULL, NEITHER, more, FULL[:14], FULL[1:]):
            for most in (0, 3, 15):
                far = seen_from(rows, basis_of(source, len(rows[0]), most))
                self.told_as(NoWeb, Lot(far, [1] * len(far)).table)
                self.told_as(NoWeb, Lot(far, [source.choice((1, 2, 10 ** 9)) for _ in far]).table)
        for web in (full(5), THREES, Web(6, list(THREES.ties) + [(0, 1), (0, 3), (4, 4)])):
            self.told_as(NoWeb, pull_table(web))

    def test_each_nine_of_ten_rows(self):
        for at in range(10):
            rows = NEITHER[:at] + NEITHER[at + 1:]
            self.told_as(NoWeb, Lot(rows, [1] * 9).table)
        for one, other in combinations(range(10), 2):
            rows = [row for at, row in enumerate(NEITHER) if at not in (one, other)]
            self.told_as(Grown, Lot(rows, [3] * 8).table)

    def test_no_lots(self):
        tables = star_tables()
        self.assertIn((), [small_rows(table) for table in tables])
        self.assertTrue(any(small_rows(table) for table in tables))
        for table in tables[::4] + STARS:
            self.told_as(NoLot, table)
        for most in (0, 3, 15):
            for _, _, far in far_tables(252, STARS + tables[5:8], most):
                self.told_as(NoLot, far)

    def test_changed_tables(self):
        for most in (0, 9, 18):
            for table, _, far in far_tables(253, some_tables(254, 10), most):
                self.told_as(type(told(table)), far)

    def test_tables_by_hand(self):
        for table in HAND_TABLES:
            self.asks(table)


def some_times(source, rows):
    """The table of the lot of these rows, each some times."""
    return Lot(rows, [source.randint(1, 5) for _ in rows]).table.rows


class Refused(Case):

    def test_what_is_no_table(self):
        for value in not_tables():
            self.refuses(BadTable, {"part": "table"}, told, value)


if __name__ == "__main__":
    unittest.main()
