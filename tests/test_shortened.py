"""Tables in short bases, and the check of such papers."""

import random
import unittest
from itertools import permutations, product

from flowtells.errors import BadTable
from flowtells.papers import Denial, Paper
from flowtells.shortened import Shortened, shortened, shows_shortened
from flowtells.tables import Table
from tests.helpers import GREAT, Case, LikeTable, not_integers, not_lists, not_tables
from tests.oracles import determinant, ring
from tests.table_oracles import HAND_TABLES, changed, far_tables, one_of, random_table, some_tables, squares

FAR = Table([[1000001, 1000], [1000, 1]])
SHORT = Table([[2, -1, 0], [-1, 3, 1], [0, 1, 4]])


class Bent(Shortened):
    """A class below Shortened: no value of it is a Shortened."""


def is_short(rows):
    """Whether twice what any two unlike points share is, without its sign, at most the length of each."""
    return all(2 * abs(rows[at][by]) <= min(rows[at][at], rows[by][by])
               for at, by in permutations(range(len(rows)), 2))


def is_right(table, paper):
    """Whether a paper is right, by the words of the document."""
    return determinant(paper.points) in (1, -1) and changed(table.rows, paper.points) == paper.table.rows and \
        is_short(paper.table.rows)


class Papers(Case):

    def test_a_paper_of_a_table_and_points(self):
        paper = Shortened(SHORT, one_of(3))
        points = ((1, 0, 0), (0, 1, 0), (0, 0, 1))
        self.same_kind([paper.word, paper.points, len(paper.parts)], ["shortened", points, 2])
        self.assertIs(paper.table, SHORT)
        self.assertEqual(paper.parts, (SHORT, points))
        self.assertIs(bool(paper), True)
        self.assertEqual(Shortened.__bases__, (Paper,))
        self.assertTrue(paper == Shortened(points=points, table=Table(SHORT.rows)))
        self.assertFalse(paper == Shortened(SHORT, points[::-1]))
        self.assertFalse(paper == Paper("shortened", SHORT, points))

    def test_any_values_copied(self):
        for value in (None, 5, "pairs", True, {"a": 1}):
            paper = Shortened(value, value)
            self.assertTrue(paper.table is value and paper.points is value)
        point = [1]
        paper = Shortened([[2]], [point])
        point[0] = 5
        self.same_kind(paper.parts, (((2,),), ((1,),)))


class Told(Case):

    def asks(self, table):
        paper = shortened(table)
        self.assertIs(type(paper), Shortened)
        self.assertIs(type(paper.table), Table)
        self.assertTrue(is_right(table, paper), (table.rows, paper.parts))
        self.assertIs(shows_shortened(table, paper), True)
        self.assertEqual(shortened(table=Table(list(table.rows))), paper)

    def test_tables(self):
        for table in some_tables(51, 40):
            self.asks(table)

    def test_far_tables(self):
        for most in (0, 2, 12, 20):
            for _, _, table in far_tables(52, some_tables(53, 20), most):
                self.asks(table)

    def test_great_integers(self):
        source = random.Random(54)
        for size in range(1, 6):
            for most in (10 ** 5, 10 ** 19):
                self.asks(random_table(source, size, most))

    def test_integers_of_very_unlike_size(self):
        source = random.Random(55)
        for size, _ in product(range(2, 6), range(8)):
            points = [[source.randint(-9, 9) * 10 ** source.choice((0, 6, 18)) for _ in range(size)] for _ in range(9)]
            rows = squares(list(zip(*points)))
            if determinant(rows):
                self.asks(Table(rows))

    def test_one_and_two_rows(self):
        for number in (1, 7, GREAT):
            paper = shortened(Table([[number]]))
            self.same_kind(paper.table.rows, ((number,),))
            self.assertIn(paper.points, (((1,),), ((-1,),)))
        self.same_kind(shortened(FAR).table.rows, ((1, 0), (0, 1)))
        lengths = sorted([row[at] for at, row in enumerate(shortened(Table([[10, 7], [7, 5]])).table.rows)])
        self.same_kind(lengths, [1, 1])


class Shown(Case):

    def asks(self, wanted, table, *parts):
        self.assertIs(shows_shortened(table, Shortened(*parts)), wanted, parts)

    def test_right_papers_that_shortened_need_not_return(self):
        for order in permutations(range(3)):
            for signs in product((1, -1), repeat=3):
                points = [[sign * int(at == by) for by in range(3)] for at, sign in zip(order, signs)]
                self.asks(True, SHORT, SHORT.changed(points), points)
        self.asks(True, FAR, Table(one_of(2)), [[0, -1], (1, -1000)])
        even = Table([[2, 1], [1, 2]])
        self.asks(True, even, Table([[2, -1], [-1, 2]]), [[1, 0], [-1, 1]])
        self.asks(True, even, even, one_of(2))

    def test_bases_that_are_not_short(self):
        self.asks(False, FAR, FAR, one_of(2))
        for points in ([[1, 0], [1, 1]], [[1, 1], [0, 1]], [[1, 1], [1, 2]]):
            table = Table(one_of(2))
            self.asks(False, table, table.changed(points), points)
        # Short by the longer point, not by the shorter one.
        self.asks(False, Table([[2, -2], [-2, 9]]), Table([[2, -2], [-2, 9]]), one_of(2))
        self.asks(False, Table([[9, -2], [-2, 2]]), Table([[9, -2], [-2, 2]]), one_of(2))

    def test_points_that_are_no_basis(self):
        ones = Table(one_of(2))
        self.asks(False, ones, Table([[1, 0], [0, 4]]), [[1, 0], [0, 2]])
        self.asks(False, ones, Table([[2, 0], [0, 2]]), [[1, 1], [1, -1]])
        self.asks(False, ones, ones, [[1, 0], [1, 0]])
        self.asks(False, ones, ones, [[0, 0], [0, 0]])
        self.asks(False, ones, Table([[1]]), [[1, 0]])
        self.asks(False, ones, Table(one_of(3)), one_of(3))

    def test_points_and_tables_that_are_none(self):
        right = shortened(SHORT)
        for value in not_lists() + [[], [1, 0], [[1, 0, 0]], one_of(2), one_of(4), [[[1], 0, 0]], SHORT]:
            self.asks(False, SHORT, right.table, value)
            self.asks(False, SHORT, right.table, [value, right.points[1], right.points[2]])
        for value in not_tables() + [right.table.rows, LikeTable(), FAR]:
            self.asks(False, SHORT, value, right.points)
        for at, by, value in product(range(3), range(3), not_integers()):
            points = [list(point) for point in right.points]
            points[at][by] = value
            self.asks(False, SHORT, right.table, points)

    def test_truths_for_numbers(self):
        for value in (True, False):
            self.asks(False, Table([[1]]), Table([[1]]), [[value]])
        self.asks(True, Table([[1]]), Table([[1]]), [[1]])
        self.asks(False, Table(one_of(2)), Table(one_of(2)), [[True, 0], [0, 1]])
        self.asks(False, Table(one_of(2)), Table(one_of(2)), [[1, False], [0, 1]])

    def test_papers_bent_at_each_part(self):
        source, asked = random.Random(56), {True: 0, False: 0}
        for table in some_tables(57, 20):
            paper = shortened(table)
            for at, by in product(range(table.size), repeat=2):
                for number in (-1, 1, GREAT):
                    points = [list(point) for point in paper.points]
                    points[at][by] += number
                    self.asks(is_right(table, Shortened(paper.table, points)), table, paper.table, points)
                    if determinant(points) in (1, -1):
                        found = Table(changed(table.rows, points))
                        wanted = is_right(table, Shortened(found, points))
                        asked[wanted] += 1
                        self.asks(wanted, table, found, points)
            for at in range(table.size):
                rows = [list(row) for row in paper.table.rows]
                rows[at][at] += source.choice((1, 2, 3))
                self.asks(False, table, Table(rows), paper.points)
        self.assertGreater(min(asked.values()), 20)

    def test_papers_of_another_table(self):
        papers = [shortened(table) for table in HAND_TABLES]
        for table, (other, paper) in product(HAND_TABLES, zip(HAND_TABLES, papers)):
            wanted = table.size == other.size and is_right(table, paper)
            self.assertIs(shows_shortened(table, paper), wanted)

    def test_values_that_are_no_shortened(self):
        right = shortened(SHORT)
        for value in not_lists() + not_tables() + [
                right.parts, list(right.parts), Paper("shortened", *right.parts), Denial("shortened", *right.parts),
                Bent(*right.parts), [right], Shortened, ring(3), SHORT]:
            self.assertIs(shows_shortened(SHORT, value), False)
        self.assertIs(shows_shortened(value=right, table=SHORT), True)


class Refused(Case):

    def test_what_is_no_table(self):
        for value in not_tables():
            self.refuses(BadTable, {"part": "table"}, shortened, value)
            for paper in (None, shortened(SHORT)):
                self.refuses(BadTable, {"part": "table"}, shows_shortened, value, paper)


if __name__ == "__main__":
    unittest.main()
