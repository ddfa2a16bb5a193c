"""Answers come in a short time: bounds that leave much room, for machines that are slow."""

import random
import unittest
from itertools import combinations
from time import process_time

from flowtells.alike import alike
from flowtells.bars import NoLot, lot
from flowtells.bonds import relations
from flowtells.check_lots import shows_lot
from flowtells.check_told import shows_told
from flowtells.classes import least
from flowtells.grown import grown
from flowtells.lots import Lot, lot_of
from flowtells.plane import plane
from flowtells.rows import small_rows
from flowtells.same import same
from flowtells.tables import Table
from flowtells.told import told
from flowtells.unwebbed import unwebbed
from flowtells.webs import Web
from tests.alike_oracles import TWINS, shuffled
from tests.grown_oracles import CUBES
from tests.helpers import Case
from tests.lot_oracles import FULL, NEITHER, random_lots
from tests.oracles import bundle, full, ring
from tests.table_oracles import STARS, basis_of, changed, one_of, random_table, star_of

LOOPS, STAR = Table(one_of(5)), Table(star_of(5))
FULL_TABLE = Table([[5 if at == by else -1 for by in range(5)] for at in range(5)])


class Short(Case):

    def within(self, thousandths, call, *values):
        """Ask whether the shortest of a few calls takes no longer than so many thousandths of a second."""
        times = []
        for _ in range(7):
            start = process_time()
            call(*values)
            times.append(process_time() - start)
        self.assertLess(1000 * min(times), thousandths, (call.__name__, [round(1000 * time, 2) for time in times]))

    def test_tables_of_five_rows(self):
        # What took from five to fourteen thousandths takes one at the most by now.
        bar = NoLot([[-number for number in row] for row in one_of(5)])
        for table in (LOOPS, STAR, FULL_TABLE):
            for call in (lot, least, small_rows):
                self.within(6, call, table)
            self.within(6, shows_lot, table, bar)
            self.within(6, shows_lot, table, lot(table))
            self.within(7, told, table)
            self.within(7, shows_told, table, told(table))

    def test_many_tables(self):
        source, lots = random.Random(411), random_lots(412, 20)
        drawn = []
        for _ in range(200):
            table = random_table(source, source.choice((3, 4, 5, 5, 5)), source.choice((1, 2, 3, 9)))
            if source.random() < 0.4:
                table = source.choice(lots).table if source.random() < 0.7 else source.choice(STARS)
            drawn.append((table.rows, basis_of(source, table.size, source.choice((0, 2, 9, 18)))))
        start = process_time()
        for rows, points in drawn:
            table = Table(changed(rows, points))
            paper = lot(table)
            small_rows(table)
            self.assertTrue(shows_lot(table, paper))
        # Ten thousandths each: twenty thousand tables in half of the 400 seconds in which they are to be answered.
        self.assertLess(process_time() - start, 2)

    def test_lots(self):
        for rows in (FULL, NEITHER):
            some = Lot(rows, [1] * len(rows))
            self.within(12, Lot, rows, [1] * len(rows))
            for call in (relations, grown, unwebbed):
                self.within(20, call, some)
        for web in CUBES:
            for call in (relations, grown, unwebbed):
                self.within(15, call, lot_of(web))

    def test_tables_of_great_gaps(self):
        source = random.Random(413)
        for _ in range(20):
            rows = [[source.randint(-1, 1) * 10 ** source.randint(0, 19) for _ in range(6)] for _ in range(5)]
            table = [[sum(a * b for a, b in zip(one, other)) for other in rows] for one in rows]
            try:
                table = Table(table)
            except ValueError:
                continue
            self.within(15, least, table)
            self.within(15, lot, table)

    def test_same(self):
        source = random.Random(414)
        for table in (LOOPS, STAR, FULL_TABLE):
            self.within(20, same, table, Table(changed(table.rows, basis_of(source, 5, 18))))
        for one, other in TWINS:
            self.within(20, same, Table(one), Table(other))

    def test_alike_and_plane(self):
        source = random.Random(415)
        for web in CUBES + [Web(1, [(0, 0)] * 12), bundle(12), ring(12), Web(4, [(0, 1), (1, 2), (2, 3), (3, 0)] * 3)]:
            self.within(20, alike, web, shuffled(source, web))
        for pairs in combinations(CUBES[:3], 2):
            self.within(20, alike, *pairs)
        every = list(combinations(range(6), 2))
        for web in (full(5), Web(6, every[:12]), Web(6, every[3:]), bundle(12)):
            self.within(20, plane, web)


if __name__ == "__main__":
    unittest.main()
