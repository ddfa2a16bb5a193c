"""Whether a table is a lot's: the lots and the bars that are told."""

import random
import unittest

from flowtells.bars import LotOf, NoLot, lot
from flowtells.check_lots import shows_lot
from flowtells.errors import BadTable
from flowtells.flows import flow_table
from flowtells.lots import Lot, lot_of
from flowtells.papers import Denial, Paper
from flowtells.pieces import beside
from flowtells.pulls import pull_table
from flowtells.rounds import numbers
from flowtells.rows import small_rows
from flowtells.tables import Table
from tests.helpers import GREAT, Case, not_tables
from tests.lot_oracles import FULL, KFIVE, KSIX, NEITHER, bars_it, random_lots, seen_from, star_tables
from tests.table_oracles import (
    HAND_TABLES, STARS, basis_of, changed, far_tables, flow_webs, pull_webs, random_table, some_tables)


class Papers(Case):

    def test_a_paper_of_a_lot(self):
        some = Lot([[1]], [7])
        paper = LotOf(some)
        self.assertEqual(paper.word, "lotof")
        self.assertTrue(paper.lot is some and paper.parts[0] is some and len(paper.parts) == 1)
        self.assertIs(bool(paper), True)
        self.assertEqual(LotOf.__bases__, (Paper,))
        self.assertTrue(paper == LotOf(lot=Lot([(1,)], (7,))))
        self.assertFalse(paper == LotOf(Lot([[1]], [8])))
        self.assertFalse(paper == Paper("lotof", some))

    def test_a_denial_of_a_bar(self):
        bar = [[-1, 0], [0, -1]]
        paper = NoLot(bar)
        bar[0][0] = 5
        self.same_kind([paper.word, paper.bar, paper.parts], ["nolot", ((-1, 0), (0, -1)), (((-1, 0), (0, -1)),)])
        self.assertIs(bool(paper), False)
        self.assertEqual(NoLot.__bases__, (Denial,))
        self.assertTrue(paper == NoLot(bar=((-1, 0), (0, -1))))
        self.assertFalse(paper == NoLot([[-1]]))
        self.assertFalse(NoLot(bar) == LotOf(bar))

    def test_any_values(self):
        for value in (None, 5, "lot", True, {"a": 1}, [[1], [2]]):
            self.assertEqual([LotOf(value).lot, NoLot(value).bar], [LotOf(value).parts[0], NoLot(value).parts[0]])
        self.same_kind(LotOf([[1], 2]).lot, ((1,), 2))


class Told(Case):
    """Each paper is right by the words of the document, and comes again."""

    def asks(self, table):
        paper = lot(table)
        if type(paper) is LotOf:
            self.assertIs(type(paper.lot), Lot)
            self.assertEqual(paper.lot.table.rows, table.rows)
            self.assertEqual(paper.lot.rows, small_rows(table))
        else:
            self.assertIs(type(paper), NoLot)
            self.assertTrue(bars_it(table, small_rows(table), paper.bar), (table.rows, paper.bar))
        self.assertIs(shows_lot(table, paper), True)
        self.assertEqual(lot(table=Table(list(table.rows))), paper)
        return bool(paper)

    def test_tables(self):
        for table in some_tables(131, 60):
            self.asks(table)

    def test_far_tables(self):
        for most in (0, 2, 18):
            for table, _, far in far_tables(132, some_tables(133, 20), most):
                self.assertEqual(self.asks(far), bool(lot(table)))

    def test_one_to_three_rows_are_a_lot_s(self):
        source = random.Random(134)
        for size in (1, 2, 3):
            for most in (1, 2, 3, 9, 10 ** 9):
                for _ in range(6):
                    self.assertTrue(self.asks(random_table(source, size, most)))
        self.same_kind(lot(Table([[GREAT]])).lot.times, (GREAT,))

    def test_four_rows_with_no_number_below_nought(self):
        source, asked = random.Random(135), {True: 0, False: 0}
        for _ in range(100):
            table = random_table(source, 4, 2)
            wanted = all(top > 0 for _, top, _ in numbers(table))
            asked[wanted] += 1
            self.assertEqual(self.asks(table), wanted)
        self.assertGreater(min(asked.values()), 5)

    def test_five_rows(self):
        source, asked = random.Random(136), {True: 0, False: 0}
        for _ in range(60):
            asked[self.asks(random_table(source, 5, 2))] += 1
        self.assertGreater(min(asked.values()), 5)

    def test_stars(self):
        for table in star_tables()[::3]:
            self.assertFalse(self.asks(table))
        for most in (0, 3, 18):
            for _, _, far in far_tables(137, star_tables()[:8], most):
                self.assertFalse(self.asks(far))


class OfLots(Case):

    def asks(self, some):
        paper = lot(some.table)
        self.assertEqual(paper, LotOf(some))
        self.same_kind([paper.lot.rows, paper.lot.times], [some.rows, some.times])

    def test_flows(self):
        source = random.Random(139)
        for web in flow_webs():
            some = lot_of(web)
            self.asks(some)
            for most in (0, 2, 18):
                self.asks(Lot(seen_from(some.rows, basis_of(source, some.size, most)), some.times))
            self.assertEqual(lot(flow_table(web)), LotOf(some))

    def test_pulls(self):
        for web in pull_webs():
            paper = lot(pull_table(web))
            self.assertEqual(sorted(paper.lot.times), sorted(map(len, beside(web))))
            self.assertEqual(paper.lot.rows, small_rows(pull_table(web)))

    def test_many_rows(self):
        source = random.Random(140)
        for rows in (KFIVE, KSIX, FULL, NEITHER):
            for most in (0, 2, 18):
                far = seen_from(rows, basis_of(source, len(rows[0]), most))
                self.asks(Lot(far, [1] * len(far)))
                self.asks(Lot(far, [source.choice((1, 2, 10 ** 9, GREAT)) for _ in far]))

    def test_some_lots(self):
        for some in random_lots(141, 30) + random_lots(142, 20, 3):
            self.asks(some)

    def test_a_changed_table(self):
        for table, points, far in far_tables(143, [some.table for some in random_lots(144, 10)] + STARS, 5):
            paper, other = lot(table), lot(far)
            self.assertIs(type(paper), type(other))
            if paper:
                self.assertEqual(dict(zip(seen_from(paper.lot.rows, points), paper.lot.times)),
                                 dict(zip(other.lot.rows, other.lot.times)))
            self.assertEqual(far.rows, changed(table.rows, points))


class Refused(Case):

    def test_what_is_no_table(self):
        for value in not_tables():
            self.refuses(BadTable, {"part": "table"}, lot, value)


if __name__ == "__main__":
    unittest.main()
