"""Tables that are one in some basis, and tables that are not, against a search of points."""

import random
import unittest
from itertools import combinations, product

from flowtells.alike import alike
from flowtells.check_alike import shows_same
from flowtells.classes import least
from flowtells.errors import BadTable
from flowtells.flows import flow_table
from flowtells.pulls import pull_table
from flowtells.same import Same, Unsame, same
from flowtells.tables import Table
from flowtells.told import told
from flowtells.webs import bridges
from tests.alike_oracles import TWINS, are_one, shuffled
from tests.grown_oracles import shapes
from tests.helpers import GREAT, Case, not_tables
from tests.lot_oracles import FULL, KFIVE, KSIX, NEITHER, seen_from, star_tables
from tests.oracles import determinant
from tests.table_oracles import (
    HAND_TABLES, STARS, back, basis_of, changed, far_tables, one_of, pull_webs, random_table, some_tables, squares)

# Tables with many least points of one length: loops, all heights, stars, and others with many ways to go to themselves.
EVEN = [
    Table(one_of(5)), Table([[4 * number for number in row] for row in one_of(5)]),
    Table(squares(list(zip(*KFIVE)))), Table(squares(list(zip(*KSIX)))), Table(squares(list(zip(*FULL)))),
    Table(squares(list(zip(*NEITHER)))), Table([[2 if at == by else 1 for by in range(5)] for at in range(5)]),
    Table([[6 if at == by else 1 for by in range(5)] for at in range(5)]),
] + STARS


class Asking(Case):

    def asks(self, one, other):
        """Whether two tables are one, as same tells; what it tells is right, and comes again."""
        paper = same(one, other)
        self.assertEqual(paper, same(other=Table(list(other.rows)), one=Table(one.rows)))
        if type(paper) is Same:
            self.assertEqual(type(paper.points), tuple)
            self.assertEqual([abs(determinant(paper.points)), changed(one.rows, paper.points)], [1, other.rows])
        else:
            self.assertEqual(paper, Unsame())
        self.assertIs(bool(same(other, one)), bool(paper))
        self.assertIs(shows_same(one, other, paper), True)
        self.assertIs(shows_same(one, other, Unsame()), not paper)
        return bool(paper)


class Told(Asking):

    def test_changed_tables(self):
        for most in (0, 2, 9, 18):
            for table, points, far in far_tables(321, some_tables(322, 20), most):
                self.assertTrue(self.asks(table, far))
                self.assertIs(shows_same(table, far, Same(points)), True)

    def test_two_far_bases(self):
        source = random.Random(323)
        for table in some_tables(324, 10):
            one, other = (Table(changed(table.rows, basis_of(source, table.size, 18))) for _ in range(2))
            self.assertTrue(self.asks(one, other))

    def test_many_least_points_of_one_length(self):
        source = random.Random(325)
        for table in EVEN:
            for most in (0, 3, 18):
                self.assertTrue(self.asks(table, Table(changed(table.rows, basis_of(source, table.size, most)))))
        for one, other in combinations(EVEN, 2):
            self.assertFalse(self.asks(one, other))

    def test_points_of_five_even_integers_or_five_odd_ones(self):
        table = Table(squares([[2, 0, 0, 0, 0], [0, 2, 0, 0, 0], [0, 0, 2, 0, 0], [0, 0, 0, 2, 0], [1, 1, 1, 1, 1]]))
        self.assertEqual([self.asks(table, other) for other in STARS], [False, False, False, True])

    def test_great_integers(self):
        source = random.Random(326)
        for size in range(1, 6):
            rows = [[number * GREAT for number in row] for row in one_of(size)]
            far = Table(changed(rows, basis_of(source, size, 6)))
            self.assertTrue(self.asks(Table(rows), far))
            rows[0][0] += 1
            self.assertFalse(self.asks(Table(rows), far))
        self.assertTrue(self.asks(Table([[GREAT]]), Table([[GREAT]])))
        self.assertFalse(self.asks(Table([[GREAT]]), Table([[GREAT + 1]])))
        self.assertFalse(self.asks(Table([[1, 0], [0, GREAT * 2]]), Table([[2, 0], [0, GREAT]])))

    def test_the_same_determinant_and_the_same_lengths(self):
        source = random.Random(327)
        for first, second in TWINS:
            one, other = Table(first), Table(second)
            self.assertEqual(one.determinant, other.determinant)
            self.assertEqual(*[sorted(length for _, length, _ in least(table)) for table in (one, other)])
            self.assertFalse(are_one(first, second))
            self.assertFalse(self.asks(one, other))
            for most in (0, 9):
                far = Table(changed(first, basis_of(source, 5, most)))
                self.assertEqual([self.asks(far, one), self.asks(far, other)], [True, False])

    def test_the_same_determinant(self):
        asked = 0
        source = random.Random(328)
        for size, most in ((2, 3), (3, 2), (4, 1)):
            found = {}
            for _ in range(200):
                table = random_table(source, size, most)
                found.setdefault(table.determinant, []).append(table)
            for tables in found.values():
                for one, other in combinations(tables[:4], 2):
                    if max(one.rows[at][at] for at in range(size)) < 12:
                        wanted = are_one(one.rows, other.rows)
                        asked += not wanted
                        self.assertEqual(self.asks(one, other), wanted)
        self.assertGreater(asked, 40)

    def test_unlike_numbers_of_rows(self):
        for one, other in product(range(1, 6), repeat=2):
            self.assertEqual(self.asks(Table(one_of(one)), Table(one_of(other))), one == other)

    def test_two_rows(self):
        tables = [Table([[a, b], [b, c]]) for a in range(1, 5) for c in range(1, 5) for b in range(-3, 4) if a * c > b * b]
        asked = {True: 0, False: 0}
        for one, other in combinations(tables, 2):
            if one.determinant == other.determinant:
                wanted = are_one(one.rows, other.rows)
                asked[wanted] += 1
                self.assertEqual(bool(same(one, other)), wanted)
        self.assertGreater(min(asked.values()), 20)

    def test_back_to_front(self):
        # What shares integers with all points of a table makes a table, too; some are one with it, most are not.
        for table in HAND_TABLES:
            other = Table(back(table.rows))
            self.assertEqual(self.asks(table, other), self.asks(other, table))


class OfWebs(Asking):

    def test_alike_exactly_if_tables_of_flows_are_one(self):
        source = random.Random(329)
        webs = shapes(330, 8)
        for web in webs:
            self.assertTrue(self.asks(flow_table(web), flow_table(shuffled(source, web))))
        for one, other in combinations(webs[::2], 2):
            self.assertEqual(self.asks(flow_table(one), flow_table(other)), bool(alike(one, other)))

    def test_alike_exactly_if_tables_of_pulls_are_one(self):
        source = random.Random(331)
        webs = [web for web in pull_webs() if all(one != other for one, other in web.ties)]
        webs += [shuffled(source, web) for web in webs[::3]]
        asked = {True: 0, False: 0}
        for one, other in combinations(webs, 2):
            if len(bridges(one)) == len(bridges(other)):
                wanted = bool(alike(one, other))
                asked[wanted] += 1
                self.assertEqual(bool(same(pull_table(one), pull_table(other))), wanted)
        self.assertGreater(min(asked.values()), 15)

    def test_the_web_that_is_told(self):
        for web in shapes(332, 6):
            far = Table(changed(flow_table(web).rows, basis_of(random.Random(web.places), flow_table(web).size, 5)))
            paper = told(far)
            if set(paper.times) == {1}:
                self.assertTrue(self.asks(flow_table(paper.web), far))

    def test_no_lots(self):
        tables = star_tables()[::6]
        for one, other in combinations(tables, 2):
            self.asks(one, other)
        for _, _, far in far_tables(333, tables, 6):
            self.assertEqual(sum(self.asks(table, far) for table in tables) > 0, True)


class Refused(Asking):

    def test_what_is_no_table(self):
        table = Table([[2, -1], [-1, 2]])
        for value in not_tables():
            self.refuses(BadTable, {"part": "one"}, same, value, table)
            self.refuses(BadTable, {"part": "other"}, same, table, value)
            self.refuses(BadTable, {"part": "one"}, same, value, value)

    def test_seen_from_other_points(self):
        source = random.Random(334)
        rows = seen_from(KSIX, basis_of(source, 5, 3))
        self.assertTrue(self.asks(Table(squares(list(zip(*rows)))), Table(squares(list(zip(*KSIX))))))


if __name__ == "__main__":
    unittest.main()
