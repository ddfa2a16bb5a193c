"""Lots: what makes one, their tables, and the lots of webs."""

import random
import unittest
from itertools import combinations, permutations, product

from flowtells.errors import BadLot, BadWeb, Misfit, TooMany
from flowtells.flows import flow_basis, flow_table
from flowtells.lots import Lot, lot_of
from flowtells.tables import Table
from flowtells.trees import many_trees
from flowtells.webs import Web
from tests.helpers import GREAT, Case, LikeLot, Odd, not_integers, not_lists, not_webs
from tests.lot_oracles import FULL, KFIVE, KSIX, NEITHER, is_unimodular, random_lots, seen_from
from tests.oracles import HAND_MADE, LARGE, bundle, determinant, full, random_webs, ring
from tests.table_oracles import basis_of, flow_webs, one_of, told

ROWS = [[1, 0], [0, 1], [1, -1]]


class Heap(Lot):
    """A class below Lot: its values are of another class."""


def by_sums(rows, times):
    """The squares of rows, each so many times, added up."""
    size = len(rows[0])
    return tuple(tuple(sum(many * row[at] * row[by] for row, many in zip(rows, times)) for by in range(size))
                 for at in range(size))


class Making(Case):

    def test_attributes(self):
        for rows in (ROWS, tuple(map(tuple, ROWS)), [(1, 0), [0, 1], (1, -1)]):
            for times in ([1, 3, 2], (1, 3, 2)):
                lot = Lot(rows, times)
                self.same_kind([lot.size, lot.rows, lot.times], [2, ((0, 1), (1, -1), (1, 0)), (3, 2, 1)])
                self.assertIs(type(lot.table), Table)
                self.same_kind(lot.table.rows, ((3, -2), (-2, 5)))
        self.same_kind(Lot(times=[7], rows=[[1]]).table.rows, ((7,),))

    def test_rows_in_any_order(self):
        for order in permutations(range(3)):
            lot = Lot([ROWS[at] for at in order], [(1, 3, 2)[at] for at in order])
            self.same_kind([lot.rows, lot.times], [((0, 1), (1, -1), (1, 0)), (3, 2, 1)])
        source = random.Random(121)
        for lot in random_lots(122, 10, 2):
            pairs = list(zip(lot.rows, lot.times))
            source.shuffle(pairs)
            again = Lot([row for row, _ in pairs], [times for _, times in pairs])
            self.assertTrue(again == lot and again.times == lot.times and again.rows == lot.rows)

    def test_tables_by_sums(self):
        source = random.Random(123)
        for rows in (KFIVE, KSIX, FULL, NEITHER, [(1,)], ROWS, one_of(4)):
            for most in (0, 2, 19):
                far = seen_from(rows, basis_of(source, len(rows[0]), most))
                times = [source.choice((1, 2, GREAT)) for _ in far]
                lot = Lot(far, times)
                self.same_kind(lot.table.rows, by_sums(far, times))
                self.assertEqual(lot.size, len(rows[0]))
                self.assertEqual(list(lot.rows), sorted(far))
                self.assertEqual(dict(zip(lot.rows, lot.times)), dict(zip(far, times)))

    def test_what_was_passed_may_be_changed_behind(self):
        rows, times = [list(row) for row in ROWS], [1, 3, 2]
        lot = Lot(rows, times)
        self.same_kind([rows, times], [[[1, 0], [0, 1], [1, -1]], [1, 3, 2]])
        rows[0][0] = 5
        rows.pop()
        times[0] = 9
        self.same_kind([lot.rows, lot.times], [((0, 1), (1, -1), (1, 0)), (3, 2, 1)])

    def test_one_to_five_integers(self):
        for size in range(1, 6):
            lot = Lot(one_of(size), [2] * size)
            self.same_kind([lot.size, lot.table.determinant], [size, 2 ** size])
        self.refuses(BadLot, {"part": "rows"}, Lot, one_of(6), [1] * 6)

    def test_fifteen_rows_and_sixteen(self):
        self.assertEqual(len(Lot(FULL, [1] * 15).rows), 15)
        # Six integers apart from it, no sixteen rows could be a lot's; the rows are refused ahead of the rest.
        self.refuses(BadLot, {"part": "rows"}, Lot, FULL + ((1, 1, 1, 1, 1),), [1] * 16)
        self.refuses(BadLot, {"part": "rows"}, Lot, FULL + ((1, 1, 1, 1, 1),), None)
        self.refuses(BadLot, {"part": "determinant"}, Lot, FULL[:14] + ((1, 1, 1, 1, 1),), [1] * 15)


class BadRows(Case):

    def asks(self, rows, times=(1, 1, 1)):
        self.refuses(BadLot, {"part": "rows"}, Lot, rows, times)

    def test_what_is_no_list_of_rows(self):
        for value in not_lists():
            self.asks(value)
            self.asks(value, None)
            for at in range(3):
                self.asks(ROWS[:at] + [value] + ROWS[at + 1:])
        for value in ([], (), [[]], [[], []], [1, 2], [[1], 2], [[[1]]], [[[1, 0]], [[0, 1]]]):
            self.asks(value)

    def test_a_wrong_integer_at_any_place(self):
        for at, by, value in product(range(3), range(2), not_integers()):
            rows = [list(row) for row in ROWS]
            rows[at][by] = value
            self.asks(rows)
        self.asks([[True]], [1])
        self.asks([[True, 0], [0, 1]], [1, 1])
        self.asks([[1, False], [0, 1]], [1, 1])

    def test_rows_of_another_length(self):
        for at in range(3):
            self.asks(ROWS[:at] + [ROWS[at] + [0]] + ROWS[at + 1:])
            self.asks(ROWS[:at] + [[1]] + ROWS[at + 1:])
        self.asks([[1, 0, 0, 0, 0, 0]] + one_of(6)[1:])

    def test_rows_twice(self):
        self.asks(ROWS[:2] + [[0, 1]])
        self.asks([[1, 0], (0, 1), (1, 0)])
        self.asks([[1], [1]], [1, 1])
        for at in range(15):
            self.asks(FULL[:at] + (FULL[at - 1],) + FULL[at + 1:], [1] * 15)

    def test_rows_of_noughts_and_contraries(self):
        for at in range(3):
            self.asks(ROWS[:at] + [[0, 0]] + ROWS[at + 1:])
            self.asks(ROWS[:at] + [[-number for number in ROWS[at]]] + ROWS[at + 1:])
        self.asks([[0, 1], [-1, 0]])
        self.asks([[1, 0], [0, -1]])
        self.asks([[0]], [1])
        self.asks([[-1]], [1])
        for at, row in enumerate(NEITHER):
            self.asks(NEITHER[:at] + (tuple(-number for number in row),) + NEITHER[at + 1:], [1] * 10)

    def test_too_few_rows(self):
        for size in range(2, 6):
            for many in range(size):
                self.asks(one_of(size)[:many], [1] * many)
            self.assertEqual(Lot(one_of(size), [1] * size).size, size)


class BadTimes(Case):

    def asks(self, times, rows=ROWS):
        self.refuses(BadLot, {"part": "times"}, Lot, rows, times)

    def test_what_is_no_list_of_times(self):
        for value in not_lists():
            self.asks(value)
        for value in ([], (), [1], [1, 1], [1, 1, 1, 1], [[1, 1, 1]], [[1], [1], [1]]):
            self.asks(value)

    def test_a_wrong_integer_at_any_place(self):
        for at, value in product(range(3), not_integers() + [0, -1, -GREAT]):
            times = [1, 3, 2]
            times[at] = value
            self.asks(times)
        self.asks([0], [[1]])
        self.asks([True], [[1]])

    def test_ahead_of_determinants(self):
        for rows in ([[1, 1], [1, -1]], [[1, 0], [2, 0]], [[2, 0], [0, 1]]):
            self.asks([1, 0], rows)
            self.asks(None, rows)
            self.refuses(BadLot, {"part": "determinant"}, Lot, rows, [1, 1])

    def test_behind_rows(self):
        for times in (None, [], [0, 0], [1]):
            self.refuses(BadLot, {"part": "rows"}, Lot, [(0, 1), (-1, 0)], times)
            self.refuses(BadLot, {"part": "rows"}, Lot, [(1, 1), (1, 1)], times)


class BadDeterminants(Case):

    def asks(self, rows):
        self.refuses(BadLot, {"part": "determinant"}, Lot, rows, [1] * len(rows))

    def test_of_one_kind(self):
        self.asks([(1, 0), (0, 1), (1, 1), (1, -1)])
        self.asks([[2]])
        self.asks([[1], [2]])
        self.asks([[GREAT]])
        self.asks([[1, 1], [1, -1]])
        self.asks([[1, 0], [0, 1], [2, 1]])
        self.asks([[1, 0], [1, GREAT]])

    def test_rows_that_are_dependent(self):
        self.asks([[1, 0], [2, 0]])
        self.asks([[1, 0, 0], [0, 1, 0], [1, 1, 0], [1, -1, 0]])
        self.asks([row + (0,) for row in KFIVE])
        self.asks([(0,) + row for row in KFIVE])
        self.asks([row[:2] + (row[1],) + row[2:] for row in KFIVE])

    def test_against_all_determinants(self):
        source, asked = random.Random(124), {True: 0, False: 0}
        choices = {size: [row for row in product((-1, 0, 1, 2), repeat=size) if any(row) and told(row) == row]
                   for size in (2, 3, 4)}
        for _ in range(400):
            size = source.choice((2, 3, 4))
            rows = source.sample(choices[size], source.randint(size, size + 1))
            wanted = is_unimodular(rows)
            asked[wanted] += 1
            if wanted:
                self.assertEqual(Lot(rows, [1] * len(rows)).rows, tuple(sorted(rows)))
            else:
                self.asks(rows)
        self.assertGreater(min(asked.values()), 20)

    def test_one_row_more(self):
        # Beside all units a row of a lot is of noughts and ones, up to signs, and few of these can join the others.
        for rows in (KFIVE, NEITHER):
            size = len(rows[0])
            for row in product((-1, 0, 1), repeat=size):
                if any(row) and told(row) == row and row not in rows:
                    self.asks(rows + (row,))

    def test_one_row_bent(self):
        source = random.Random(125)
        for lot in random_lots(126, 12):
            for at in range(len(lot.rows)):
                row = list(lot.rows[at])
                row[source.randrange(lot.size)] += source.choice((-2, -1, 1, 2, GREAT))
                if any(row) and told(row) not in lot.rows:
                    rows = lot.rows[:at] + (told(row),) + lot.rows[at + 1:]
                    if all(abs(number) <= 1 for number in row):
                        wanted = all(abs(determinant(some + (told(row),))) <= 1 for some in combinations(
                            lot.rows[:at] + lot.rows[at + 1:], lot.size - 1))
                        if wanted and any(determinant(some) for some in combinations(rows, lot.size)):
                            self.assertEqual(Lot(rows, [1] * len(rows)).rows, tuple(sorted(rows)))
                        else:
                            self.asks(rows)


class Equal(Case):

    def test_lots(self):
        lot = Lot(ROWS, [1, 3, 2])
        self.assertTrue(lot == Lot(ROWS[::-1], [2, 3, 1]))
        self.assertTrue(lot == Lot(tuple(map(tuple, ROWS)), (1, 3, 2)))
        self.assertFalse(lot != Lot(ROWS, [1, 3, 2]))
        self.same_kind(Lot([[0, 1], [1, 0], [1, 1]], [3, 2, 1]).times, lot.times)
        for rows, times in ((ROWS, [1, 2, 3]), (ROWS[:2], [1, 3]), ([[0, 1], [1, 0], [1, 1]], [3, 2, 1]), ([[1]], [6])):
            self.assertFalse(lot == Lot(rows, times))
            self.assertTrue(lot != Lot(rows, times))

    def test_with_other_values(self):
        lot = Lot([[1]], [1])
        for value in not_lists() + [lot.rows, lot.times, (lot.rows, lot.times), lot.table, LikeLot(), Odd()]:
            if not hasattr(value, "refuse"):
                self.assertFalse(lot == value)
                self.assertTrue(lot != value)
        self.assertFalse(lot == Heap([[1]], [1]))
        self.assertFalse(Heap([[1]], [1]) == lot)


class OfWebs(Case):

    def test_webs(self):
        for web in flow_webs():
            lot, basis = lot_of(web), flow_basis(web)
            self.assertIs(type(lot), Lot)
            self.assertEqual(lot.table, flow_table(web))
            rows = [told(row) for row in zip(*basis) if any(row)]
            self.assertEqual(dict(zip(lot.rows, lot.times)), {row: rows.count(row) for row in rows})
            self.assertEqual(lot.table.determinant, many_trees(web))
            self.assertEqual(lot_of(web=web), lot)

    def test_of_one_kind(self):
        self.same_kind([lot_of(ring(12)).rows, lot_of(ring(12)).times], [((1,),), (12,)])
        self.same_kind([lot_of(bundle(6)).rows[:2], lot_of(bundle(6)).times], [((0, 0, 0, 0, 1), (0, 0, 0, 1, 0)), (1,) * 6])
        loops = lot_of(Web(2, [(0, 1), (0, 0), (1, 1)]))
        self.same_kind([loops.rows, loops.times], [((0, 1), (1, 0)), (1, 1)])
        self.same_kind(lot_of(Web(3, [(0, 1), (0, 1), (1, 2)])).times, (2,))

    def test_no_flows(self):
        for web in (Web(1, []), Web(2, [(0, 1)]), LARGE[0], LARGE[2]):
            self.refuses(Misfit, {"part": "flows"}, lot_of, web)

    def test_five_flows_and_six(self):
        self.assertEqual(lot_of(Web(1, [(0, 0)] * 5)).size, 5)
        for web in HAND_MADE + LARGE + random_webs(127, 20, 5, 12) + [full(5), Web(1, [(0, 0)] * 6)]:
            if len(web.ties) - web.places + 1 > 5:
                self.refuses(TooMany, {"what": "rows", "most": 5}, lot_of, web)

    def test_what_is_no_web(self):
        for value in not_webs():
            self.refuses(BadWeb, {"part": "web"}, lot_of, value)


if __name__ == "__main__":
    unittest.main()
