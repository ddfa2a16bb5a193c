"""Lots that are no web's: K5 and K33 in them, against places built from relations and the words of the document."""

import random
import unittest
from itertools import combinations

from flowtells.bars import lot
from flowtells.check_unwebbed import shows_unwebbed
from flowtells.errors import BadLot
from flowtells.lots import Lot, lot_of
from flowtells.papers import Denial, Paper
from flowtells.pulls import pull_table
from flowtells.unwebbed import NoWeb, unwebbed
from flowtells.webs import Web
from tests.helpers import GREAT, Case, not_lots
from tests.lot_oracles import FULL, KFIVE, KSIX, NEITHER, heights_of, is_web, random_lots, seen_from, shows_it
from tests.oracles import bundle, full
from tests.table_oracles import basis_of, flow_webs, one_of, pull_webs

PAIRS = {10: list(combinations(range(5), 2)), 9: [(one, other) for one in range(3) for other in range(3, 6)]}
KSIX_WEB = Web(6, PAIRS[9])


def all_once(rows):
    """The lot of these rows, each once."""
    return Lot(rows, [1] * len(rows))


class Papers(Case):

    def test_a_denial(self):
        kept, idle, names = [0, 1], [2], [[0, 1], (1, 2)]
        paper = NoWeb(kept, idle, names)
        names[0][0] = 5
        kept.append(7)
        self.same_kind([paper.word, paper.kept, paper.idle, paper.names], ["noweb", (0, 1), (2,), ((0, 1), (1, 2))])
        self.same_kind(paper.parts, ((0, 1), (2,), ((0, 1), (1, 2))))
        self.assertIs(bool(paper), False)
        self.assertEqual(NoWeb.__bases__, (Denial,))
        self.assertTrue(paper == NoWeb(names=((0, 1), (1, 2)), idle=(2,), kept=(0, 1)))
        self.assertFalse(paper == NoWeb((0, 1), (), ((0, 1), (1, 2))))
        self.assertFalse(paper == Denial("noweb", *paper.parts))
        self.assertFalse(paper == Paper("noweb", *paper.parts))

    def test_any_values(self):
        for value in (None, 5, True, {"a": 1}, Lot([[1]], [1])):
            paper = NoWeb(value, value, value)
            self.assertTrue(paper.kept is value and paper.idle is value and paper.names is value)


class Told(Case):

    def asks(self, some):
        """Whether a lot is a web's, as unwebbed tells; what it tells otherwise is right and comes again."""
        paper = unwebbed(some)
        again = unwebbed(lot=Lot(list(some.rows), list(some.times)))
        if paper is None:
            self.assertIs(again, None)
            return True
        self.assertIs(type(paper), NoWeb)
        self.assertEqual(paper, again)
        self.assertEqual([list(paper.kept), list(paper.idle)], [sorted(set(paper.kept)), sorted(set(paper.idle))])
        self.assertFalse(set(paper.kept) & set(paper.idle))
        self.assertEqual(sorted(paper.names), PAIRS[len(paper.kept)])
        self.assertEqual(len(paper.idle), int(some.size == 5 and len(paper.kept) == 10))
        self.assertTrue(all(one < other for one, other in paper.names))
        self.assertIs(shows_unwebbed(some, paper), True)
        return False

    def test_webs(self):
        source = random.Random(171)
        for web in flow_webs():
            some = lot_of(web)
            self.assertTrue(self.asks(some))
            for most in (0, 2, 18):
                far = seen_from(some.rows, basis_of(source, some.size, most))
                self.assertTrue(self.asks(Lot(far, some.times)))

    def test_one_to_three_integers(self):
        for size in (1, 2, 3):
            self.assertTrue(self.asks(all_once(one_of(size))))
            self.assertTrue(self.asks(all_once(heights_of(list(combinations(range(size + 1), 2))))))
        self.assertTrue(self.asks(Lot([[1]], [GREAT])))

    def test_ten_rows_of_four_and_fewer(self):
        source = random.Random(172)
        for most in (0, 0, 2, 18):
            rows = seen_from(KFIVE, basis_of(source, 4, most))
            self.assertFalse(self.asks(Lot(rows, [source.randint(1, GREAT) for _ in rows])))
            for many in (6, 7, 8, 9):
                for chosen in source.sample(list(combinations(rows, many)), 5):
                    if len({row for row in chosen}) == many and spans(chosen):
                        self.assertTrue(self.asks(all_once(chosen)))

    def test_nine_rows_of_five_and_fewer(self):
        source = random.Random(173)
        for most in (0, 0, 2, 18):
            rows = seen_from(KSIX, basis_of(source, 5, most))
            paper = unwebbed(all_once(rows))
            self.assertEqual([paper.kept, paper.idle], [tuple(range(9)), ()])
            self.assertFalse(self.asks(all_once(rows)))
            for at in range(9):
                self.assertTrue(self.asks(all_once(rows[:at] + rows[at + 1:])))

    def test_ten_rows_of_which_each_nine_have_it(self):
        source = random.Random(174)
        for most in (0, 2, 18):
            rows = seen_from(NEITHER, basis_of(source, 5, most))
            self.assertFalse(self.asks(all_once(rows)))
            self.assertEqual(len(unwebbed(all_once(rows)).kept), 9)
            for at in range(10):
                self.assertFalse(self.asks(all_once(rows[:at] + rows[at + 1:])))
            for one, other in combinations(range(10), 2):
                left = [row for at, row in enumerate(rows) if at not in (one, other)]
                self.assertTrue(self.asks(all_once(left)))

    def test_one_row_idle(self):
        source = random.Random(175)
        beside = [(0,) * 4 + (1,)] + [row + (0,) for row in KFIVE]
        self.assertFalse(self.asks(all_once(beside)))
        self.assertEqual(unwebbed(all_once(beside)).idle, (0,))
        for most in (0, 2, 18):
            rows = seen_from(beside, basis_of(source, 5, most))
            self.assertFalse(self.asks(Lot(rows, [source.randint(1, 9) for _ in rows])))
            for at in range(11):
                if spans(rows[:at] + rows[at + 1:]):
                    self.assertTrue(self.asks(all_once(rows[:at] + rows[at + 1:])))
        for many in (13, 14, 15):
            every = list(combinations(FULL, many))
            for chosen in source.sample(every, min(10, len(every))):
                self.assertFalse(self.asks(all_once(seen_from(chosen, basis_of(source, 5, 2)))))

    def test_against_places_built_from_relations(self):
        asked = {True: 0, False: 0}
        for some in random_lots(176, 60) + random_lots(177, 20, 3):
            wanted = is_web(some)
            asked[wanted] += 1
            self.assertEqual(self.asks(some), wanted, some.rows)
        self.assertGreater(min(asked.values()), 15)

    def test_papers_are_right_by_their_words(self):
        found = 0
        for some in random_lots(178, 40):
            paper = unwebbed(some)
            if paper is not None:
                found += 1
                self.assertTrue(shows_it(some, paper.kept, paper.idle, paper.names))
        self.assertGreater(found, 10)

    def test_lots_of_heights(self):
        # The lot of a web's pulls is a web's exactly if the web lies in the plane: five places all tied do not.
        for web in pull_webs():
            some = lot(pull_table(web)).lot
            self.assertEqual(self.asks(some), is_web(some))
        self.assertFalse(self.asks(lot(pull_table(full(5))).lot))
        self.assertFalse(self.asks(lot(pull_table(KSIX_WEB)).lot))
        self.assertTrue(self.asks(lot(pull_table(full(4))).lot))
        self.assertTrue(self.asks(lot(pull_table(bundle(6))).lot))
        for struck in range(9):
            ties = [tie for at, tie in enumerate(PAIRS[9]) if at != struck]
            self.assertTrue(self.asks(lot(pull_table(Web(6, ties))).lot))
            with_more = Web(6, PAIRS[9] + [PAIRS[9][struck], (0, 1), (4, 4)])
            self.assertFalse(self.asks(lot(pull_table(with_more)).lot))

    def test_what_was_passed_stays(self):
        some = all_once(KFIVE)
        unwebbed(some)
        self.same_kind([some.rows, some.times], [tuple(sorted(KFIVE)), (1,) * 10])


def spans(rows):
    """Whether these rows make a lot: so many of them are independent as one has integers."""
    try:
        return bool(all_once(rows).rows)
    except BadLot:
        return False


class Refused(Case):

    def test_what_is_no_lot(self):
        for value in not_lots():
            self.refuses(BadLot, {"part": "lot"}, unwebbed, value)


if __name__ == "__main__":
    unittest.main()
