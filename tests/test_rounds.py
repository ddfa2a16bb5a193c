"""Rounds, bonds and bridges."""

import unittest
from itertools import combinations

from flowtells.errors import BadWeb
from flowtells.webs import Web, bonds, bridges, rounds
from tests.helpers import Case, not_webs
from tests.oracles import HAND_MADE, LARGE, all_bonds, all_rounds, bundle, full, random_webs, ring


class AgainstAll(Case):

    def test_small_webs(self):
        for web in HAND_MADE + random_webs(2, 60, 7, 9):
            with self.subTest(web=str(web)):
                found = all_rounds(web)
                self.same_kind(rounds(web), found)
                self.same_kind(bonds(web), all_bonds(web))
                used = {tie for circle in found for tie in circle}
                self.same_kind(bridges(web), tuple(tie for tie in range(len(web.ties)) if tie not in used))

    def test_twelve_ties(self):
        for web in LARGE:
            with self.subTest(web=str(web)):
                self.same_kind(rounds(web), all_rounds(web))
                self.same_kind(bonds(web), all_bonds(web))

    def test_by_name(self):
        web = ring(3)
        self.assertEqual(rounds(web=web), ((0, 1, 2),))
        self.assertEqual(bonds(web=web), ((0, 1), (0, 2), (1, 2)))
        self.assertEqual(bridges(web=web), ())


class OfOneKind(Case):

    def test_no_ties(self):
        web = Web(1, [])
        self.same_kind([rounds(web), bonds(web), bridges(web)], [(), (), ()])

    def test_loops(self):
        for many in (1, 5, 12):
            web = Web(1, [(0, 0)] * many)
            self.same_kind(rounds(web), tuple((tie,) for tie in range(many)))
            self.same_kind([bonds(web), bridges(web)], [(), ()])

    def test_rings(self):
        for many in (2, 3, 12):
            self.same_kind(rounds(ring(many)), (tuple(range(many)),))
            self.same_kind(bonds(ring(many)), tuple(combinations(range(many), 2)))
            self.same_kind(bridges(ring(many)), ())

    def test_bundles(self):
        for many in (2, 3, 12):
            self.same_kind(rounds(bundle(many)), tuple(combinations(range(many), 2)))
            self.same_kind(bonds(bundle(many)), (tuple(range(many)),))
            self.same_kind(bridges(bundle(many)), ())

    def test_all_ties_are_bridges(self):
        star, chain = LARGE[0], LARGE[2]
        for web in (star, chain, Web(2, [(1, 0)])):
            many = len(web.ties)
            self.same_kind(rounds(web), ())
            self.same_kind(bonds(web), tuple((tie,) for tie in range(many)))
            self.same_kind(bridges(web), tuple(range(many)))

    def test_a_bridge_between_rings_and_a_loop_at_a_leaf(self):
        web = Web(6, [(5, 5), (3, 4), (1, 0), (4, 5), (2, 3), (0, 2), (1, 2), (3, 3)])
        self.same_kind(bridges(web), (1, 3, 4))
        self.same_kind(rounds(web), ((0,), (2, 5, 6), (7,)))
        self.same_kind(bonds(web), ((1,), (2, 5), (2, 6), (3,), (4,), (5, 6)))

    def test_twelve_ties_with_many_rounds(self):
        pairs = list(combinations(range(4), 2))
        double = Web(4, pairs * 2)
        self.assertEqual(len(rounds(double)), 6 + 4 * 8 + 3 * 16)
        self.assertEqual(len(bonds(double)), 7)
        crossed = Web(7, [(one, other) for one in range(3) for other in range(3, 7)])
        self.assertEqual(len(rounds(crossed)), 18 + 24)
        self.assertEqual(len(rounds(full(4))), 7)
        self.assertEqual(len(bonds(full(5))), 15)

    def test_a_round_and_a_bond_have_evenly_many_ties_in_common(self):
        for web in LARGE:
            for circle in rounds(web):
                self.assertTrue(all(len(set(circle) & set(bond)) % 2 == 0 for bond in bonds(web)))

    def test_the_web_stays(self):
        web = Web(5, [(0, 1), (1, 2), (2, 0), (2, 3), (3, 4), (4, 3), (3, 3)])
        text = str(web)
        for call in (rounds, bonds, bridges):
            self.same_kind(call(web), call(web))
        self.assertEqual(str(web), text)


class Refused(Case):

    def test_what_is_no_web(self):
        for call in (rounds, bonds, bridges):
            for value in not_webs() + [Web]:
                self.refuses(BadWeb, {"part": "web"}, call, value)


if __name__ == "__main__":
    unittest.main()
