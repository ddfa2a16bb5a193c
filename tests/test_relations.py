"""Relations of lots, against a search over all lists of -1, 0 and 1, and against the bonds of webs."""

import random
import unittest
from itertools import product

from flowtells.bonds import relations
from flowtells.errors import BadLot
from flowtells.grown import Grown, grown
from flowtells.lots import Lot, lot_of
from flowtells.pulls import is_pull
from tests.grown_oracles import CUBES, by_rows, dependent, shapes
from tests.helpers import GREAT, Case, not_lots
from tests.lot_oracles import FULL, KFIVE, KSIX, NEITHER, circles, heights_of, random_lots, seen_from
from tests.oracles import all_bonds
from tests.table_oracles import basis_of, one_of, told


def by_search(rows):
    """The least relations of rows, straight from the words of the document, by trying all lists."""
    lists = [((), (0,) * len(rows[0]))]
    for row in rows:
        lists = [(some + (times,), tuple(a + times * b for a, b in zip(total, row)))
                 for some, total in lists for times in (-1, 0, 1)]
    found = [some for some, total in lists if not any(total) and any(some)]
    uses = {frozenset(at for at, times in enumerate(some) if times) for some in found}
    least = [some for some in found if not any(use < frozenset(at for at, times in enumerate(some) if times) for use in uses)]
    return tuple(sorted(some for some in least if told(some) == some))


def all_once(rows):
    """The lot of these rows, each once."""
    return Lot(rows, [1] * len(rows))


class BySearch(Case):

    def asks(self, some):
        self.same_kind(relations(some), by_search(some.rows))

    def test_without_relations(self):
        for size in range(1, 6):
            self.same_kind(relations(all_once(one_of(size))), ())
            points = basis_of(random.Random(size), size, 12)
            self.same_kind(relations(Lot(seen_from(one_of(size), points), [GREAT] * size)), ())

    def test_one_to_three_integers(self):
        source = random.Random(201)
        for rows in ([(0, 1), (1, -1), (1, 0)], heights_of([(0, 1), (0, 2), (0, 3), (1, 2), (1, 3), (2, 3)]),
                     [(0, 0, 1), (0, 1, 0), (1, 0, 0), (1, 1, 1)], [(0, 0, 1), (0, 1, 0), (0, 1, 1), (1, 0, 0)]):
            self.asks(all_once(rows))
            for most in (0, 2, 18):
                self.asks(Lot(seen_from(rows, basis_of(source, len(rows[0]), most)), [source.randint(1, 9) for _ in rows]))

    def test_lots_of_webs(self):
        source = random.Random(202)
        for web in shapes(203, 12):
            some = lot_of(web)
            if len(some.rows) < 9:
                self.asks(some)
                self.asks(Lot(seen_from(some.rows, basis_of(source, some.size, 9)), some.times))

    def test_lots_of_no_web(self):
        source = random.Random(204)
        for rows in (KFIVE, KSIX, NEITHER):
            self.asks(all_once(seen_from(rows, basis_of(source, len(rows[0]), 3))))

    def test_drawn_lots(self):
        for some in random_lots(205, 30):
            if len(some.rows) < 10:
                self.asks(some)


class Large(Case):
    """Lots of up to fifteen rows: the rows that are used, by fractions, and that they add up to noughts."""

    def asks(self, some):
        found = relations(some)
        self.assertEqual(found, tuple(sorted(set(found))))
        for relation in found:
            self.assertTrue(dependent(some.rows, relation) and set(relation) <= {-1, 0, 1})
            self.assertEqual(told(relation), relation)
        uses = [frozenset(at for at, times in enumerate(relation) if times) for relation in found]
        self.assertEqual(len(set(uses)), len(uses))
        self.assertEqual(set(uses), set(circles(some.rows)))

    def test_fifteen_rows(self):
        source = random.Random(206)
        for most in (0, 18):
            rows = seen_from(FULL, basis_of(source, 5, most))
            self.asks(Lot(rows, [source.choice((1, 2, GREAT)) for _ in rows]))
        self.assertEqual(len(relations(all_once(FULL))), 20 + 45 + 72 + 60)

    def test_ten_to_fourteen_rows(self):
        source = random.Random(207)
        for many in (10, 11, 12, 13, 14):
            rows = source.sample(FULL, many)
            if len(circles(rows)) > 0:
                self.asks(all_once(seen_from(rows, basis_of(source, 5, 2))))


class OfWebs(Case):
    """The least relations of a web's lot are the bonds of the web that bears its table, but for directions."""

    def asks(self, some):
        paper = grown(some)
        self.assertIs(type(paper), Grown)
        ties = {row: tie for row, (tie,) in by_rows(paper.flows).items()}
        self.assertEqual(sorted(ties), list(some.rows))
        columns, found = list(zip(*paper.flows)), []
        for relation in relations(some):
            numbers = [0] * len(columns)
            for row, times in zip(some.rows, relation):
                numbers[ties[row]] = times if columns[ties[row]] == row else -times
            self.assertTrue(is_pull(paper.web, numbers))
            found.append(tuple(tie for tie, number in enumerate(numbers) if number))
        self.assertEqual(sorted(found), list(all_bonds(paper.web)))

    def test_shapes(self):
        source = random.Random(208)
        for web in shapes(209, 15):
            some = lot_of(web)
            self.asks(Lot(seen_from(some.rows, basis_of(source, some.size, source.choice((0, 2, 18)))), some.times))

    def test_twelve_ties(self):
        for web in CUBES:
            self.asks(lot_of(web))


class Calls(Case):

    def test_by_name_and_again(self):
        for some in random_lots(210, 10):
            self.same_kind(relations(lot=some), relations(Lot(list(some.rows), list(some.times))))

    def test_times_do_not_count(self):
        for first, second in product((1, GREAT), repeat=2):
            self.same_kind(relations(Lot([(1, 0), (0, 1), (1, -1)], [first, second, 5])), ((1, 1, -1),))

    def test_what_is_no_lot(self):
        for value in not_lots():
            self.refuses(BadLot, {"part": "lot"}, relations, value)


if __name__ == "__main__":
    unittest.main()
