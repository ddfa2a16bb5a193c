"""Webs that are told of lots, against the webs that the lots came of, by the words of the document."""

import random
import unittest
from itertools import combinations

from flowtells.check_grown import shows_grown
from flowtells.errors import BadLot
from flowtells.flows import flow_basis
from flowtells.grown import Grown, grown
from flowtells.lots import Lot, lot_of
from flowtells.papers import Denial, Paper
from flowtells.unwebbed import NoWeb, unwebbed
from flowtells.webs import Web, bridges, rounds
from tests.grown_oracles import CUBES, bears, by_rows, shapes
from tests.helpers import GREAT, Case, not_lots
from tests.lot_oracles import FULL, KFIVE, KSIX, NEITHER, heights_of, is_web, random_lots, seen_from
from tests.oracles import all_rounds
from tests.table_oracles import basis_of, combined, one_of, told


def all_once(rows):
    """The lot of these rows, each once."""
    return Lot(rows, [1] * len(rows))


class Papers(Case):

    def test_a_paper(self):
        web, times, flows = Web(2, [(0, 1), (1, 0)]), [2, 3], [[1, 1], (0, 0)]
        paper = Grown(web, times, flows)
        times.append(4)
        flows[0][0] = 7
        self.same_kind([paper.word, paper.times, paper.flows], ["grown", (2, 3), ((1, 1), (0, 0))])
        self.assertTrue(paper.web is web and paper.parts[0] is web)
        self.same_kind(paper.parts[1:], ((2, 3), ((1, 1), (0, 0))))
        self.assertIs(bool(paper), True)
        self.assertEqual(Grown.__bases__, (Paper,))
        self.assertTrue(paper == Grown(flows=[[1, 1], [0, 0]], times=(2, 3), web=Web(2, [[0, 1], [1, 0]])))
        for other in (Grown(web, (2, 3), ((1, 1),)), Grown(web, (3, 2), paper.flows), Grown(Web(1, []), (2, 3), paper.flows),
                      Paper("grown", *paper.parts), Denial("grown", *paper.parts), paper.parts, None):
            self.assertFalse(paper == other)

    def test_any_values(self):
        for value in (None, 5, True, {"a": 1}, Lot([[1]], [1])):
            paper = Grown(value, value, value)
            self.assertTrue(paper.web is value and paper.times is value and paper.flows is value)
        self.same_kind(Grown([1, [2]], "a", [[]]).parts, ((1, (2,)), "a", ((),)))


class Told(Case):

    def asks(self, some):
        """The paper of a lot, which is right by its words, and comes again; None if the lot is no web's."""
        paper = grown(some)
        self.assertEqual(paper, grown(lot=Lot(list(some.rows), list(some.times))))
        if not paper:
            self.assertIs(type(paper), NoWeb)
            self.assertEqual(paper, unwebbed(some))
            self.assertIs(shows_grown(some, paper), False)
            return None
        self.assertIs(type(paper), Grown)
        self.assertIs(type(paper.web), Web)
        self.assertEqual([type(paper.times)] + [type(flow) for flow in paper.flows], [tuple] * (1 + some.size))
        self.assertTrue(bears(paper.web, paper.times, paper.flows, some.table.rows), (some.rows, paper.parts))
        self.assertEqual(sorted(zip(map(told, zip(*paper.flows)), paper.times)), list(zip(some.rows, some.times)))
        self.assertIs(shows_grown(some, paper), True)
        self.assertIs(unwebbed(some), None)
        return paper

    def same_rounds(self, paper, lists, found):
        """The rounds of a paper's web are those found, if the ties that these lists tell of one row are one tie."""
        groups, ties = by_rows(lists), by_rows(paper.flows)
        self.assertEqual(sorted(groups), sorted(ties))
        goes = {ties[row][0]: groups[row] for row in ties}
        wanted = [tuple(sorted(tie for one in circle for tie in goes[one])) for circle in rounds(paper.web)]
        self.assertEqual(tuple(sorted(wanted)), found)
        self.assertEqual([len(goes[tie]) for tie in sorted(goes)], list(paper.times))

    def test_webs(self):
        source = random.Random(221)
        for web in shapes(222, 20):
            some = lot_of(web)
            basis = flow_basis(web)
            found = rounds(web)
            self.same_rounds(self.asks(some), basis, found)
            for most in (0, 18):
                points = basis_of(source, some.size, most)
                far = Lot(seen_from(some.rows, points), some.times)
                self.same_rounds(self.asks(far), [combined(point, basis) for point in points], found)

    def test_rounds_of_all_ties(self):
        for web in [web for web in shapes(223, 5) if len(web.ties) < 10]:
            self.same_rounds(self.asks(lot_of(web)), flow_basis(web), all_rounds(web))

    def test_great_times(self):
        source = random.Random(224)
        for web in shapes(225, 5):
            rows = lot_of(web).rows
            paper = self.asks(Lot(rows, [source.choice((1, 2, 10 ** 20, GREAT)) for _ in rows]))
            self.assertEqual(len(paper.times), len(rows))
        self.assertEqual(grown(Lot([[1]], [GREAT])), Grown(Web(1, [(0, 0)]), (GREAT,), ((1,),)))

    def test_places_and_ties(self):
        for web in CUBES:
            paper = self.asks(lot_of(web))
            self.assertEqual([paper.web.places, len(paper.web.ties), bridges(paper.web)], [8, 12, ()])
        for size in range(1, 6):
            paper = self.asks(all_once(one_of(size)))
            self.assertEqual([paper.web.places, paper.web.ties], [1, ((0, 0),) * size])
        # Of one piece with the greatest number of ties in a bundle: two places.
        for size in range(2, 6):
            paper = self.asks(all_once(one_of(size) + [[1] * size]))
            self.assertEqual([paper.web.places, len(paper.web.ties)], [2, size + 1])

    def test_no_webs(self):
        source = random.Random(226)
        for rows in (KFIVE, KSIX, FULL, NEITHER, [(1, 0, 0, 0, 0)] + [(0,) + row for row in KFIVE]):
            for most in (0, 2, 18):
                far = seen_from(rows, basis_of(source, len(rows[0]), most))
                self.assertIs(self.asks(Lot(far, [source.randint(1, 9) for _ in far])), None)
        for many in (13, 14):
            for chosen in source.sample(list(combinations(FULL, many)), 8):
                self.assertIs(self.asks(all_once(chosen)), None)

    def test_fewer_rows_of_no_web(self):
        for rows, least in ((KFIVE, 10), (KSIX, 9), (NEITHER, 9)):
            for at in range(len(rows)):
                paper = self.asks(all_once(rows[:at] + rows[at + 1:]))
                self.assertIs(paper is None, len(rows) - 1 >= least)

    def test_drawn_lots(self):
        asked = {True: 0, False: 0}
        for some in random_lots(227, 60) + random_lots(228, 20, 18):
            wanted = is_web(some)
            asked[wanted] += 1
            self.assertEqual(self.asks(some) is not None, wanted)
        self.assertGreater(min(asked.values()), 15)

    def test_lots_of_three_integers_are_webs(self):
        every = heights_of(list(combinations(range(4), 2)))
        for many in range(3, 7):
            for chosen in combinations(every, many):
                if is_lot(chosen):
                    self.assertTrue(self.asks(all_once(chosen)))

    def test_pieces(self):
        # A bundle of three and a wheel, each in integers of its own: their places but one are added up.
        bundle, four = [(1, 0), (0, 1), (1, 1)], heights_of(list(combinations(range(4), 2)))
        rows = [row + (0, 0, 0) for row in bundle] + [(0, 0) + row for row in four]
        for order in (list(range(9)), list(range(8, -1, -1)), [3, 0, 6, 1, 8, 2, 4, 7, 5]):
            paper = self.asks(Lot([rows[at] for at in order], [at + 1 for at in order]))
            self.assertEqual([paper.web.places, len(rounds(paper.web))], [2 + 4 - 1, 3 + 7])


def is_lot(rows):
    """Whether these rows are those of a lot."""
    try:
        return bool(all_once(rows).rows)
    except BadLot:
        return False


class Calls(Case):

    def test_what_was_passed_stays(self):
        for rows in (KFIVE, one_of(3), [(0, 1), (1, -1), (1, 0)]):
            some = all_once(rows)
            grown(some)
            self.same_kind([some.rows, some.times], [tuple(sorted(map(tuple, rows))), (1,) * len(rows)])

    def test_what_is_no_lot(self):
        for value in not_lots():
            self.refuses(BadLot, {"part": "lot"}, grown, value)


if __name__ == "__main__":
    unittest.main()
