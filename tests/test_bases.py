"""Lists of integers by a basis, and short bases, by fractions."""

import random
import unittest
from fractions import Fraction
from itertools import product

from flowtells.bases import (
    by_first_basis, lessened, made_of, many_bits, nearest, shares_of, small_sum, sum_of_products, unit_points)
from flowtells.classes import least_ends
from flowtells.lots import are_unimodular
from flowtells.rounds import all_tops
from flowtells.rows import small_at, units_by_least
from flowtells.short_bases import ShortBasis, left_over
from tests.helpers import GREAT, Case
from tests.lot_oracles import FULL, KSIX, NEITHER, is_unimodular, rank, random_lots
from tests.oracles import determinant
from tests.table_oracles import (
    HAND_TABLES, STARS, Table, basis_of, changed, combined, far_tables, least_by_search, one_of, random_table, searched,
    shared, small_by_search, some_tables, squares, told)


def taken_out(rows):
    """The rows of what the points behind the first one share, by fractions, when made orthogonal to it."""
    top = rows[0]
    return [[row[at] - Fraction(row[0]) * top[at] / top[0] for at in range(1, len(row))] for row in rows[1:]]


class Parts(Case):

    def test_nearest(self):
        for top in range(-30, 31):
            for bottom in range(1, 8):
                self.assertLessEqual(abs(Fraction(top, bottom) - nearest(top, bottom)), Fraction(1, 2))
        self.same_kind([nearest(GREAT * 7 + 3, 7), nearest(GREAT * 7 + 4, 7)], [GREAT, GREAT + 1])

    def test_points(self):
        self.same_kind([unit_points(1), unit_points(2)], [[[1]], [[1, 0], [0, 1]]])
        self.same_kind(made_of([(1, 2), (3, -4)], (5, -6)), (-13, 34))
        self.same_kind(lessened([1, 2], (3, -4), 5), [-14, 22])
        self.same_kind([sum_of_products((1, -2), (3, 4)), sum_of_products((), [])], [-5, 0])
        self.same_kind([many_bits(number) for number in (0, 1, 2, 3, 31, 32)], [0, 1, 1, 2, 5, 1])

    def test_what_points_share(self):
        source = random.Random(111)
        for table in some_tables(112, 10):
            points = [[source.randint(-9, 9) for _ in range(table.size)] for _ in range(4)]
            self.assertEqual(tuple(map(tuple, shares_of(table.rows, points))), changed(table.rows, points))

    def test_small_sums(self):
        self.same_kind(small_sum([1, 0], []), [1, 0])
        self.assertIs(small_sum([2, 0], []), None)
        for lists in product(product((-1, 0, 1), repeat=3), repeat=3):
            found = small_sum(lists[0], lists[1:])
            sums = [[a + one * b + other * c for a, b, c in zip(*lists)] for one, other in product((1, -1), repeat=2)]
            small = [some for some in sums if max(map(abs, some)) <= 1]
            self.assertTrue(found in small if small else found is None)

    def test_numbers_of_sorts(self):
        source = random.Random(113)
        for size in range(1, 6):
            lengths = [source.randint(-GREAT, GREAT) for _ in range(2 ** size - 1)]
            wanted = [sum(by if many_bits(sort & kind) % 2 else -by for kind, by in enumerate(lengths, 1))
                      for sort in range(1, 2 ** size)]
            self.same_kind(all_tops(lengths), wanted)


class ByFirstBasis(Case):

    def asks(self, rows):
        numbers, worth, found = by_first_basis(rows)
        self.assertEqual(numbers, [at for at in range(len(rows)) if rank(rows[:at + 1]) > rank(rows[:at])])
        for row, times in zip(rows, found):
            made = [sum(many * rows[at][by] for many, at in zip(times, numbers)) for by in range(len(row))]
            self.assertEqual(made, [worth * number for number in row])
        if len(numbers) == len(rows[0]):
            self.assertEqual(abs(worth), abs(determinant([rows[at] for at in numbers])))
        else:
            self.assertNotEqual(worth, 0)

    def test_by_hand(self):
        self.same_kind(by_first_basis([(0, 0), (0, 2), (0, -3), (1, 5), (1, 0)])[0], [1, 3])
        self.same_kind(by_first_basis([(0, 1), (1, 0), (3, 7)]), ([0, 1], 1, [(1, 0), (0, 1), (7, 3)]))
        self.same_kind(by_first_basis([(0, 0)]), ([], 1, [()]))

    def test_rows(self):
        source = random.Random(114)
        for _ in range(200):
            size, most = source.randint(1, 5), source.choice((1, 1, 3, GREAT))
            rows = [tuple(source.choice((0, source.randint(-most, most))) for _ in range(size))
                    for _ in range(source.randint(1, 8))]
            self.asks(rows)
            self.asks([list(row) for row in rows])

    def test_rows_of_lots(self):
        for some in random_lots(115, 10, 9):
            self.asks(some.rows)


class Unimodular(Case):
    """The rows of which any n have the determinant 0, 1 or -1, and some n another than 0."""

    def test_drawn_rows(self):
        source, asked = random.Random(116), {True: 0, False: 0}
        for _ in range(300):
            size = source.randint(1, 4)
            rows = [tuple(source.choice((0, 0, 0, 1, -1)) for _ in range(size)) for _ in range(source.randint(1, 6))]
            if len(rows) >= size:
                wanted = is_unimodular(rows)
                asked[wanted] += 1
                self.assertEqual(are_unimodular(rows), wanted)
        self.assertGreater(min(asked.values()), 50)

    def test_lots_and_lots_bent(self):
        source, asked = random.Random(117), {True: 0, False: 0}
        for rows in [some.rows[:9] for some in random_lots(118, 10)] + [KSIX, NEITHER]:
            for _ in range(6):
                bent = [list(row) for row in rows]
                at, by = source.randrange(len(bent)), source.randrange(len(bent[0]))
                bent[at][by] = source.choice((-1, 0, 1))
                wanted = is_unimodular(bent)
                asked[wanted] += 1
                self.assertEqual(are_unimodular(bent), wanted)
        self.assertGreater(min(asked.values()), 10)
        self.assertTrue(are_unimodular(FULL))

    def test_bases_of_other_determinants(self):
        # Here each three rows have the determinant 2 or -2, or any number, or 0.
        self.assertFalse(are_unimodular([(1, 1, 0), (1, 0, 1), (0, 1, 1)]))
        self.assertFalse(are_unimodular([(1, 1, 0), (1, 0, 1), (0, 1, 1), (1, 0, 0)]))
        self.assertFalse(are_unimodular([(1, 0, 0), (1, 1, 0), (1, 0, 1), (0, 1, 1)]))
        self.assertFalse(are_unimodular([(GREAT,)]))
        self.assertFalse(are_unimodular([(1, 0), (2, 0), (0, 0)]))


class Short(Case):

    def asks(self, table):
        short, size = ShortBasis(table.rows), table.size
        self.assertIn(determinant(short.points), (1, -1))
        turned = [[shared(row, point) for point in short.points] for row in short.back]
        self.assertEqual(turned, one_of(size))
        rows = changed(table.rows, short.points)
        self.assertEqual(short.left, left_over(rows))
        left = rows
        while len(left) > 1:
            for number in left[0][1:]:
                self.assertLessEqual(2 * abs(number), left[0][0])
            self.assertGreaterEqual(4 * left[1][1], 3 * left[0][0])
            left = taken_out(left)

    def test_what_is_left_over(self):
        for table in some_tables(119, 20):
            wanted, scale, found = table.rows, 1, left_over(table.rows)
            self.assertEqual([len(row) for row in found], list(range(1, table.size + 1)))
            for at in range(table.size):
                self.assertEqual([row[at] for row in found[at:]], [scale * number for number in wanted[0]])
                wanted, scale = taken_out(wanted), found[at][at]

    def test_tables(self):
        for table in some_tables(120, 40):
            self.asks(table)

    def test_far_tables(self):
        for most in (1, 9, 20):
            for _, _, far in far_tables(121, HAND_TABLES, most):
                self.asks(far)


def worst_table(source, size):
    """A table whose points are short as they are, but get as much shorter from one to the next as short ones can."""
    halves = [[2 if at == by else 0 if by > at else -1 if by == at - 1 else source.choice((0, -1)) for by in range(size)]
              for at in range(size)]
    worth = [2 ** (size + 1 - at) for at in range(size)]
    return Table([[sum(a * b * by for a, b, by in zip(one, other, worth)) for other in halves] for one in halves])


class AnyBasis(Case):
    """Least points and small rows as they are found by any basis, short or not."""

    def asks(self, rows):
        found = least_ends(left_over(rows))
        wanted = {kind: told for kind, told in least_by_search(rows).items()}
        self.assertEqual(len(found), len(wanted))
        for number, (length, ends) in enumerate(found, start=1):
            kind = tuple(number >> at & 1 for at in range(len(rows)))
            whole = sorted(ends + [tuple(-number for number in end) for end in ends])
            self.assertEqual((length, tuple(whole)), wanted[kind])
        rows_found = sorted(told(row) for row in small_at(found))
        self.assertEqual(tuple(rows_found), small_by_search(rows, 3))
        worth, units = units_by_least(found)
        self.assertGreater(worth, 0)
        return worth, units == one_of(len(rows))

    def test_small_tables(self):
        for table in searched(some_tables(122, 40)):
            self.asks(table.rows)

    def test_units_that_are_not_least(self):
        source, asked = random.Random(123), 0
        for size in (2, 3, 4, 4):
            for _ in range(12):
                table = random_table(source, size, 2)
                near = changed(table.rows, ShortBasis(table.rows).points)
                points = one_of(size)
                at, by = source.sample(range(size), 2)
                points[at] = [a + 2 * b for a, b in zip(points[at], points[by])]
                skew = changed(near, points)
                if len(searched([Table(skew)])) == 1:
                    _, plain = self.asks(skew)
                    asked += not plain
        self.assertGreater(asked, 10)

    def test_short_points_that_are_not_least(self):
        source, asked = random.Random(124), 0
        for _ in range(10):
            table = worst_table(source, source.choice((4, 5)))
            short = ShortBasis(table.rows)
            self.assertEqual(short.points, one_of(table.size))
            found = least_ends(short.left)
            asked += units_by_least(found)[1] != one_of(table.size)
            # A point is least exactly if with no other point it shares more than that point's own length.
            for length, ends in found:
                for end in ends:
                    self.assertEqual(table.length(end), length)
                    self.assertTrue(all(abs(table.share(end, by)) <= long for long, others in found for by in others))
            far = Table(changed(table.rows, basis_of(source, table.size, 3)))
            self.assertEqual(len(small_at(found)), len(small_at(least_ends(ShortBasis(far.rows).left))))
        self.assertGreater(asked, 5)

    def test_least_points_that_are_no_basis(self):
        # Of the points of five even integers, or five odd ones, the shortest five make up half of all points.
        source, asked = random.Random(125), set()
        rows = squares([[2, 0, 0, 0, 0], [0, 2, 0, 0, 0], [0, 0, 2, 0, 0], [0, 0, 0, 2, 0], [1, 1, 1, 1, 1]])
        for table in (Table(rows), STARS[1], STARS[3], Table(one_of(5))):
            for _ in range(10):
                points = basis_of(source, 5, 0)
                at, by = source.sample(range(5), 2)
                points[at] = [a + 2 * b for a, b in zip(points[at], points[by])]
                found = least_ends(left_over(changed(table.rows, points)))
                worth, units = units_by_least(found)
                asked.add(worth)
                small = {told(combined(row, one_of(5))) for row in small_at(found)}
                wanted = small_at(least_ends(ShortBasis(table.rows).left))
                self.assertEqual(len(small), len(wanted))
                for row in small:
                    self.assertLessEqual(max(abs(shared(row, end)) for _, ends in found for end in ends), 1)
        self.assertEqual(asked, {1, 2})


if __name__ == "__main__":
    unittest.main()
