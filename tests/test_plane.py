"""Webs that lie in the plane, with their webs of sides, and webs that do not, with K5 or K33 in them."""

import random
import unittest
from itertools import combinations

from flowtells.alike import alike
from flowtells.check_plane import shows_plane
from flowtells.errors import BadWeb, TooMany
from flowtells.flows import flow_table
from flowtells.grown import Grown
from flowtells.plane import NotPlane, Plane, plane
from flowtells.pulls import pull_table
from flowtells.same import same
from flowtells.told import told
from flowtells.trees import many_trees
from flowtells.webs import Web, bridges, rounds
from tests.alike_oracles import shuffled
from tests.grown_oracles import THREES, hung, prism, wheel
from tests.helpers import Case, not_webs
from tests.oracles import HAND_MADE, bundle, full, random_webs, ring
from tests.plane_oracles import SIXES, are_sides, is_loop, lies_flat, stands_so, with_place_in, without

FIVE, OCTA = full(5), Web(6, [pair for pair in combinations(range(6), 2) if pair not in ((0, 1), (2, 3), (4, 5))])
FLAT = [web for web in HAND_MADE if web.places < 7] + [
    Web(1, []), Web(1, [(0, 0)] * 12), bundle(12), ring(6), wheel(3), wheel(4), wheel(5), prism(3), OCTA,
    hung(full(4), ring(3)), Web(6, [(0, at) for at in range(1, 6)]), Web(2, [(0, 1), (0, 0), (1, 1), (0, 1)]),
    Web(4, [(0, 1), (1, 2), (2, 3), (3, 0)] * 3), Web(3, [(0, 1), (1, 2), (2, 0), (1, 1)] * 3),
    Web(6, [(at, (at + 1) % 6) for at in range(6)] * 2)]


class Asking(Case):

    def asks(self, web):
        """Whether a web lies in the plane, as plane tells; what it tells is right by its words, and comes again."""
        paper = plane(web)
        self.assertEqual(paper, plane(web=Web(web.places, [list(pair) for pair in web.ties])))
        if type(paper) is Plane:
            self.same_kind([type(paper.sides), type(paper.ties)], [Web, tuple])
            self.assertTrue(are_sides(web, paper.sides, list(paper.ties)), (web.ties, paper.ties))
            self.assertEqual(bridges(paper.sides), ())
            others = [tie for tie in range(len(web.ties)) if not is_loop(web, tie)]
            self.assertEqual([paper.sides.places, len(paper.sides.ties)], [len(others) - web.places + 2, len(others)])
        else:
            self.assertIs(type(paper), NotPlane)
            self.assertTrue(stands_so(web, list(paper.struck), list(paper.drawn), list(paper.names)), (web.ties, paper.parts))
            self.assertTrue(all(tie in paper.struck for tie in range(len(web.ties)) if is_loop(web, tie)))
            self.assertEqual([type(part) for part in paper.parts], [tuple] * 3)
        self.assertIs(shows_plane(web, paper), True)
        return bool(paper)


class InThePlane(Asking):

    def test_by_hand(self):
        for web in FLAT:
            self.assertTrue(self.asks(web), web.ties)

    def test_one_place_and_no_ties(self):
        for many in range(13):
            self.assertEqual(plane(Web(1, [(0, 0)] * many)), Plane(Web(1, []), [-1] * many))
        self.assertEqual(plane(Web(2, [(1, 0)])), Plane(Web(1, [(0, 0)]), [0]))

    def test_drawn_webs(self):
        asked = {True: 0, False: 0}
        for web in random_webs(361, 120, 6, 12) + random_webs(362, 30, 6, 8):
            wanted = lies_flat(web)
            asked[wanted] += 1
            self.assertEqual(self.asks(web), wanted)
        self.assertGreater(asked[True], 100)

    def test_sides_of_sides(self):
        asked = 0
        for web in FLAT + random_webs(363, 40, 6, 10):
            paper = plane(web)
            if paper and web.places > 1 and not bridges(web) and not any(is_loop(web, tie) for tie in range(len(web.ties))):
                if paper.sides.places <= 6:
                    asked += 1
                    again = plane(paper.sides)
                    self.assertTrue(alike(again.sides, web))
        self.assertGreater(asked, 12)

    def test_as_many_trees_and_one_table(self):
        for web in FLAT:
            paper = plane(web)
            self.assertEqual(many_trees(paper.sides), many_trees(web))
            if web.places > 1:
                self.assertTrue(same(flow_table(paper.sides), pull_table(web)))

    def test_places_named_anew(self):
        source = random.Random(364)
        for web in FLAT:
            other = shuffled(source, web)
            self.assertTrue(self.asks(other))
            self.assertTrue(alike(plane(other).sides, plane(web).sides))

    def test_bridges_beside_and_loops(self):
        for web in FLAT:
            paper = plane(web)
            for tie in bridges(web):
                self.assertTrue(is_loop(paper.sides, paper.ties[tie]))
            for one, other in combinations(range(len(web.ties)), 2):
                if sorted(web.ties[one]) == sorted(web.ties[other]) and not is_loop(web, one):
                    # Ties beside one another go with ties in a row: just the same rounds have them.
                    ends = paper.ties[one], paper.ties[other]
                    self.assertTrue(all((ends[0] in circle) == (ends[1] in circle) for circle in rounds(paper.sides)))

    def test_exactly_if_the_table_of_pulls_is_a_web_s(self):
        for web in FLAT + [FIVE, THREES] + random_webs(365, 40, 6, 12):
            if web.places > 1:
                self.assertEqual(bool(plane(web)), type(told(pull_table(web))) is Grown)


class NotInThePlane(Asking):

    def test_five_and_six(self):
        source = random.Random(366)
        for web in (FIVE, THREES):
            self.assertFalse(self.asks(web))
            self.assertEqual([plane(web).struck, plane(web).drawn], [(), ()])
            for _ in range(10):
                self.assertFalse(self.asks(shuffled(source, web)))

    def test_loops_and_ties_beside(self):
        source = random.Random(367)
        for web in (FIVE, THREES):
            for more in combinations(list(web.ties) + [(0, 0), (4, 4)], 12 - len(web.ties)):
                if source.random() < 0.5:
                    self.assertFalse(self.asks(shuffled(source, Web(web.places, list(web.ties) + list(more)))))

    def test_a_tie_or_two_less(self):
        for web in (FIVE, THREES):
            for many in (1, 2):
                for struck in combinations(range(len(web.ties)), many):
                    self.assertTrue(self.asks(without(web, struck)))

    def test_a_tie_parted_by_a_place(self):
        source = random.Random(368)
        for tie in range(10):
            parted = with_place_in(FIVE, tie)
            self.assertFalse(self.asks(parted))
            self.assertEqual(len(plane(parted).drawn), 1)
            self.assertFalse(self.asks(shuffled(source, Web(6, parted.ties + ((5, 5),)))))
            for struck in range(11):
                self.assertTrue(self.asks(without(parted, [struck])) if without(parted, [struck]) else True)

    def test_a_place_hung_on(self):
        for place in range(5):
            for ties in ([(place, 5)], [(5, place)], [(place, 5), (5, place)], [(place, 5), (5, 5)]):
                self.assertFalse(self.asks(Web(6, list(FIVE.ties) + ties)))
                self.assertEqual(len(plane(Web(6, list(FIVE.ties) + ties)).drawn), 1)
        for at in range(10):
            left = without(FIVE, [at])
            self.assertTrue(self.asks(Web(6, list(left.ties) + [(2, 5)])))

    def test_places_split(self):
        # A place of K5 split into two, by a tie between them, so that K5 comes when this tie is drawn.
        for first in range(16):
            ties = [pair for pair in FIVE.ties if 4 not in pair] + [(4, 5)]
            ties += [(place, 4 + (first >> place & 1)) for place in range(4)]
            self.assertFalse(self.asks(Web(6, ties)))

    def test_more_ties_among_six(self):
        others = [pair for pair in combinations(range(6), 2) if pair not in SIXES]
        for more in combinations(others + [(0, 0), (0, 3)], 3):
            self.assertFalse(self.asks(Web(6, SIXES + list(more))))

    def test_webs_of_twelve_ties(self):
        source, asked = random.Random(369), {True: 0, False: 0}
        every = list(combinations(range(6), 2))
        for _ in range(60):
            ties = source.sample(every, 12)
            wanted = lies_flat(Web(6, ties))
            asked[wanted] += 1
            self.assertEqual(self.asks(Web(6, ties)), wanted)
        self.assertGreater(min(asked.values()), 2)

    def test_four_places_or_fewer_and_five(self):
        for web in random_webs(370, 60, 5, 12):
            if web.places < 5:
                self.assertTrue(plane(web))
            else:
                self.assertEqual(bool(plane(web)), len({frozenset(pair) for pair in web.ties if pair[0] != pair[1]}) < 10)


class Refused(Asking):

    def test_what_is_no_web(self):
        for value in not_webs():
            self.refuses(BadWeb, {"part": "web"}, plane, value)

    def test_too_many_places(self):
        for places in range(7, 14):
            web = Web(places, [(at, at + 1) for at in range(places - 1)])
            self.refuses(TooMany, {"what": "places", "most": 6}, plane, web)
        self.assertTrue(self.asks(Web(6, [(at, at + 1) for at in range(5)])))


if __name__ == "__main__":
    unittest.main()
