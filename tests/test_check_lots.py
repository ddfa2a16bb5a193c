"""The check of papers that tell whether a table is a lot's."""

import random
import unittest
from itertools import product

from flowtells.bars import LotOf, NoLot, lot
from flowtells.check_lots import shows_lot
from flowtells.errors import BadTable
from flowtells.lots import Lot
from flowtells.papers import Denial, Paper
from flowtells.rows import small_rows
from flowtells.tables import Table
from tests.helpers import GREAT, Case, LikeLot, not_integers, not_lists, not_lots, not_tables
from tests.lot_oracles import bars_it, product_of, random_lots, square, star_tables
from tests.oracles import ring
from tests.table_oracles import HAND_TABLES, STARS, bar_changed, basis_of, changed, one_of, random_table, some_tables

SOME = Lot([[1, 0], [0, 1], [1, -1]], [1, 3, 2])
MINUS = [[-number for number in row] for row in one_of(4)]
BESIDE = Table([[2, -1, 0, 0, 0], [-1, 2, -1, -1, 0], [0, -1, 2, 0, 0], [0, -1, 0, 2, 0], [0, 0, 0, 0, 3]])


class BentLot(LotOf):
    """A class below LotOf: no value of it is a LotOf."""


class BentBar(NoLot):
    """A class below NoLot: no value of it is a NoLot."""


def with_corner(corner):
    """The bar of BESIDE by minus ones, and this number for the square of its small row."""
    return [row + [0] for row in MINUS] + [[0, 0, 0, 0, corner]]


class Lots(Case):

    def asks(self, wanted, table, some):
        self.assertIs(shows_lot(table, LotOf(some)), wanted)

    def test_right_papers(self):
        self.asks(True, SOME.table, SOME)
        self.asks(True, Table([[3, -2], [-2, 5]]), Lot([[0, 1], [1, -1], [1, 0]], (3, 2, 1)))
        for some in random_lots(151, 20) + random_lots(152, 10, 4):
            self.asks(True, some.table, some)
            self.asks(True, Table(some.table.rows), Lot(some.rows, some.times))

    def test_lots_of_other_tables(self):
        for some in random_lots(153, 12):
            for at in range(len(some.rows)):
                times = list(some.times)
                times[at] += 1
                self.asks(False, some.table, Lot(some.rows, times))
                rows = some.rows[:at] + some.rows[at + 1:]
                try:
                    less = Lot(rows, times[:at] + times[at + 1:])
                except ValueError:
                    continue
                self.asks(False, some.table, less)
        for table in HAND_TABLES:
            self.asks(table.rows == SOME.table.rows, table, SOME)

    def test_what_is_no_lot(self):
        for value in not_lots() + [SOME.table, SOME.rows, LikeLot()]:
            self.asks(False, SOME.table, value)
            self.asks(False, Table([[1]]), value)

    def test_tables_of_no_lot(self):
        for table in STARS:
            for some in random_lots(154, 5):
                self.asks(False, table, some)


class Bars(Case):

    def asks(self, wanted, table, bar):
        self.assertIs(shows_lot(table, NoLot(bar)), wanted, bar)

    def test_right_papers_that_lot_need_not_return(self):
        self.asks(True, STARS[0], MINUS)
        self.asks(True, STARS[0], tuple(map(tuple, MINUS)))
        self.asks(True, STARS[0], [[GREAT * number for number in row] for row in MINUS])
        for corner in (0, 1, 2):
            self.asks(True, BESIDE, with_corner(corner))
        for table in STARS[1:]:
            self.asks(True, table, [[-number for number in row] for row in one_of(table.size)])

    def test_below_nought_at_a_small_row(self):
        self.assertEqual(small_rows(BESIDE), ((0, 0, 0, 0, 1),))
        for corner in (-1, -2, -GREAT):
            self.asks(False, BESIDE, with_corner(corner))

    def test_not_below_nought_with_the_table(self):
        self.assertEqual(product_of(with_corner(0), BESIDE.rows), -8)
        self.asks(True, BESIDE, with_corner(2))
        for corner in (3, 4, GREAT):
            self.asks(False, BESIDE, with_corner(corner))
        # One less than nought is enough.
        just = [[0] * 5 for _ in range(5)]
        just[0][0], just[4][4] = -2, 1
        self.assertEqual(product_of(just, BESIDE.rows), -1)
        self.asks(True, BESIDE, just)
        nought = [[0] * 5 for _ in range(5)]
        self.asks(False, BESIDE, nought)
        nought[0][0], nought[1][1] = 1, -1
        self.assertEqual(product_of(nought, BESIDE.rows), 0)
        self.asks(False, BESIDE, nought)
        self.asks(False, STARS[0], one_of(4))

    def test_bars_that_are_not_the_same_both_ways(self):
        for at, by in product(range(4), repeat=2):
            bar = [list(row) for row in MINUS]
            bar[at][by] -= 1
            self.asks(at == by, STARS[0], bar)
            bar[by][at] -= at != by
            self.asks(product_of(bar, STARS[0].rows) < 0, STARS[0], bar)

    def test_what_is_no_bar(self):
        for value in not_lists() + [[], MINUS[:3], MINUS + [[0] * 4], [-1] * 4, [[-1]], [row[:3] for row in MINUS], STARS[0]]:
            self.asks(False, STARS[0], value)
        for at in range(4):
            for value in not_lists() + [[], [-1], [0] * 3, [0] * 5, [[0]] * 4]:
                self.asks(False, STARS[0], MINUS[:at] + [value] + MINUS[at + 1:])
        for at, by, value in product(range(4), range(4), not_integers()):
            bar = [list(row) for row in MINUS]
            bar[at][by] = value
            self.asks(False, STARS[0], bar)
            bar[by][at] = value
            self.asks(False, STARS[0], bar)

    def test_tables_of_lots_have_none(self):
        source = random.Random(155)
        for some in random_lots(156, 10):
            size = some.size
            self.asks(False, some.table, [[-number for number in row] for row in one_of(size)])
            for _ in range(10):
                bar = [[source.randint(-3, 3) for _ in range(size)] for _ in range(size)]
                bar = [[bar[at][by] + bar[by][at] for by in range(size)] for at in range(size)]
                self.asks(False, some.table, bar)
        self.asks(False, SOME.table, [[-1, 0], [0, -1]])
        self.asks(False, Table([[5]]), [[-1]])

    def test_against_the_words_of_the_document(self):
        source, asked = random.Random(157), {True: 0, False: 0}
        tables = [table for table in some_tables(158, 16)[len(HAND_TABLES):] + star_tables()[2:12:3] if not lot(table)]
        for table in tables:
            bar, small = lot(table).bar, small_rows(table)
            self.asks(True, table, bar)
            for at, by in product(range(table.size), repeat=2):
                if by <= at:
                    for more in (-2, -1, 1, 2, source.choice((GREAT, -GREAT))):
                        bent = [list(row) for row in bar]
                        bent[at][by] += more
                        bent[by][at] = bent[at][by]
                        wanted = bars_it(table, small, bent)
                        asked[wanted] += 1
                        self.asks(wanted, table, bent)
            for row in small:
                self.assertGreaterEqual(product_of(bar, square(row)), 0)
        self.assertGreater(min(asked.values()), 50)

    def test_changed_with_the_table(self):
        source = random.Random(159)
        for table, bar in ((STARS[0], MINUS), (BESIDE, with_corner(0))):
            points = basis_of(source, table.size, 6)
            far, new = Table(changed(table.rows, points)), bar_changed(bar, points)
            self.asks(True, far, new)
            self.asks(False, far, [[-number for number in row] for row in new])


class Values(Case):

    def test_values_that_are_neither_paper(self):
        right, bar = LotOf(SOME), NoLot(MINUS)
        for value in not_lots() + [
                SOME, right.parts, bar.parts, MINUS, Paper("lotof", SOME), Denial("nolot", MINUS), BentLot(SOME),
                Denial("lotof", SOME), Paper("nolot", MINUS), LotOf, NoLot, [right], ring(3), NoLot(SOME), LotOf(right)]:
            self.assertIs(shows_lot(SOME.table, value), False)
        for value in (Denial("nolot", MINUS), BentBar(MINUS), LotOf(MINUS), NoLot(bar), NoLot([MINUS]), [bar]):
            self.assertIs(shows_lot(STARS[0], value), False)
        self.assertIs(shows_lot(value=right, table=SOME.table), True)
        self.assertIs(shows_lot(STARS[0], bar), True)
        self.assertIs(shows_lot(SOME.table, bar), False)
        self.assertIs(shows_lot(STARS[0], right), False)

    def test_papers_of_another_table(self):
        source = random.Random(160)
        tables = HAND_TABLES + [random_table(source, 4, 2) for _ in range(10)]
        papers = [lot(table) for table in tables]
        for table, paper in product(tables, papers):
            if paper:
                wanted = paper.lot.table.rows == table.rows
            else:
                wanted = len(paper.bar) == table.size and bars_it(table, small_rows(table), paper.bar)
            self.assertIs(shows_lot(table, paper), wanted)


class Refused(Case):

    def test_what_is_no_table(self):
        for value in not_tables():
            for paper in (None, LotOf(SOME), NoLot(MINUS)):
                self.refuses(BadTable, {"part": "table"}, shows_lot, value, paper)


if __name__ == "__main__":
    unittest.main()
