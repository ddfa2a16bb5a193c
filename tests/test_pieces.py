"""Pieces, parting places, ties in a row, ties beside one another."""

import unittest

from flowtells.errors import BadWeb
from flowtells.pieces import beside, in_a_row, parting_places, pieces
from flowtells.webs import Web
from tests.helpers import Case, not_webs
from tests.oracles import HAND_MADE, LARGE, all_bonds, all_rounds, bundle, full, random_webs, ring

CALLS = (pieces, parting_places, in_a_row, beside)


def groups(ties, are_one):
    """These ties, those that are one with each other in one tuple, by asking about each two."""
    return tuple(sorted({tuple(other for other in ties if other == tie or are_one(tie, other)) for tie in ties}))


def told_by_rounds(web):
    """Pieces, parting places, ties in a row and beside one another, by their words alone."""
    circles = [set(circle) for circle in all_rounds(web)]
    ties = range(len(web.ties))
    held = groups(ties, lambda one, other: any({one, other} <= circle for circle in circles))
    parting = tuple(place for place in range(web.places)
                    if sum(any(place in web.ties[tie] for tie in piece) for piece in held) > 1)
    in_rounds = [tie for tie in ties if any(tie in circle for circle in circles)]
    rows = groups(in_rounds, lambda one, other: all((one in circle) == (other in circle) for circle in circles))
    plain = [tie for tie in ties if len(set(web.ties[tie])) == 2]
    sides = groups(plain, lambda one, other: set(web.ties[one]) == set(web.ties[other]))
    return held, parting, rows, sides


class AgainstWords(Case):

    def test_webs(self):
        for web in HAND_MADE + LARGE + random_webs(3, 60, 8, 10):
            with self.subTest(web=str(web)):
                self.same_kind(tuple(call(web) for call in CALLS), told_by_rounds(web))

    def test_bonds_tell_the_same(self):
        for web in HAND_MADE + random_webs(4, 30, 6, 8):
            found = set(all_bonds(web))
            for row in in_a_row(web):
                self.assertTrue(all((one, other) in found for one in row for other in row if one < other))
            circles = set(all_rounds(web))
            for side in beside(web):
                self.assertTrue(all((one, other) in circles for one in side for other in side if one < other))

    def test_by_name(self):
        self.assertEqual([call(web=ring(2)) for call in CALLS], [((0, 1),), (), ((0, 1),), ((0, 1),)])


class OfOneKind(Case):

    def asks(self, web, held, parting, rows, sides):
        self.same_kind([call(web) for call in CALLS], [held, parting, rows, sides])

    def test_no_ties(self):
        self.asks(Web(1, []), (), (), (), ())

    def test_loops(self):
        self.asks(Web(1, [(0, 0)]), ((0,),), (), ((0,),), ())
        self.asks(Web(1, [(0, 0)] * 2), ((0,), (1,)), (0,), ((0,), (1,)), ())

    def test_bridges(self):
        self.asks(Web(2, [(1, 0)]), ((0,),), (), (), ((0,),))
        self.asks(Web(3, [(2, 1), (1, 0)]), ((0,), (1,)), (1,), (), ((0,), (1,)))
        self.asks(Web(4, [(0, 1), (0, 2), (0, 3)]), ((0,), (1,), (2,)), (0,), (), ((0,), (1,), (2,)))

    def test_two_loops_at_one_place_of_a_bridge(self):
        self.asks(Web(2, [(1, 1), (0, 1), (1, 1)]), ((0,), (1,), (2,)), (1,), ((0,), (2,)), ((1,),))

    def test_rings(self):
        self.asks(ring(4), ((0, 1, 2, 3),), (), ((0, 1, 2, 3),), ((0,), (1,), (2,), (3,)))
        self.asks(ring(12), (tuple(range(12)),), (), (tuple(range(12)),), tuple((tie,) for tie in range(12)))

    def test_bundles(self):
        self.asks(bundle(2), ((0, 1),), (), ((0, 1),), ((0, 1),))
        self.asks(bundle(3), ((0, 1, 2),), (), ((0,), (1,), (2,)), ((0, 1, 2),))
        self.asks(bundle(12), (tuple(range(12)),), (), tuple((tie,) for tie in range(12)), (tuple(range(12)),))

    def test_parts_hung_together_at_a_place(self):
        web = Web(5, [(0, 1), (2, 3), (1, 2), (3, 4), (2, 0), (4, 2)])
        self.asks(web, ((0, 2, 4), (1, 3, 5)), (2,), ((0, 2, 4), (1, 3, 5)), tuple((tie,) for tie in range(6)))

    def test_rings_of_two_at_one_place_and_one_behind_another(self):
        star = Web(4, [(0, 1), (0, 1), (0, 2), (0, 2), (0, 3), (0, 3)])
        chain = Web(4, [(0, 1), (1, 0), (1, 2), (1, 2), (2, 3), (2, 3)])
        twos = ((0, 1), (2, 3), (4, 5))
        self.asks(star, twos, (0,), twos, twos)
        self.asks(chain, twos, (1, 2), twos, twos)

    def test_ties_in_a_row_that_do_not_touch(self):
        web = Web(4, [(0, 1), (2, 3), (1, 2), (2, 1), (3, 0), (0, 3)])
        self.asks(web, ((0, 1, 2, 3, 4, 5),), (), ((0, 1), (2,), (3,), (4,), (5,)), ((0,), (1,), (2, 3), (4, 5)))

    def test_one_piece_without_rows(self):
        self.asks(full(4), (tuple(range(6)),), (), tuple((tie,) for tie in range(6)),
                  tuple((tie,) for tie in range(6)))

    def test_the_web_stays(self):
        web = Web(2, [(1, 1), (0, 1), (1, 1)])
        for call in CALLS:
            self.same_kind(call(web), call(web))
        self.assertEqual(str(web), "2 : 1 1 0 1 1 1")


class Refused(Case):

    def test_what_is_no_web(self):
        for call in CALLS:
            for value in not_webs():
                self.refuses(BadWeb, {"part": "web"}, call, value)


if __name__ == "__main__":
    unittest.main()
