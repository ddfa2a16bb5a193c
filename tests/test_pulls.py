"""Pulls: which numbers are one, the pull basis and the table of pulls."""

import random
import unittest
from itertools import product

from flowtells.errors import BadWeb, Misfit, TooMany
from flowtells.flows import flow_basis, flow_table, share
from flowtells.pulls import is_pull, pull_basis, pull_table
from flowtells.tables import Table
from flowtells.trees import many_trees
from flowtells.webs import Web
from tests.helpers import GREAT, Case, not_integers, not_lists, not_webs
from tests.oracles import HAND_MADE, LARGE, all_bonds, bundle, full, random_webs, ring
from tests.table_oracles import combined, squares

WEBS = HAND_MADE + LARGE + random_webs(41, 60, 13, 12)


def pull_by(web, heights):
    """For each tie the height of its second end less that of its first one."""
    return [heights[other] - heights[one] for one, other in web.ties]


def has_heights(web, numbers):
    """Whether heights can be given to the places so that each tie has what they differ by."""
    heights = {0: 0}
    for _ in range(web.places):
        for (one, other), number in zip(web.ties, numbers):
            if one in heights:
                heights.setdefault(other, heights[one] + number)
            if other in heights:
                heights.setdefault(one, heights[other] - number)
    return pull_by(web, heights) == list(numbers)


class Pull(Case):

    def test_against_all_small_numbers(self):
        for web in HAND_MADE:
            if len(web.ties) <= 6:
                for numbers in product((-1, 0, 1, 2), repeat=len(web.ties)):
                    self.assertIs(is_pull(web, numbers), has_heights(web, numbers), (str(web), numbers))

    def test_of_heights(self):
        source = random.Random(42)
        for web in WEBS:
            for most in (1, 5, GREAT):
                numbers = pull_by(web, [source.randint(-most, most) for _ in range(web.places)])
                self.assertIs(is_pull(web, numbers), True)
                self.assertIs(is_pull(web, tuple(numbers)), True)
                for tie in range(len(numbers)):
                    bent = numbers[:tie] + [numbers[tie] + source.choice((1, -1, GREAT))] + numbers[tie + 1:]
                    self.assertIs(is_pull(web, bent), has_heights(web, bent))

    def test_noughts_at_loops(self):
        web = Web(2, [(0, 0), (0, 1), (1, 1)])
        self.assertIs(is_pull(web, [0, 5, 0]), True)
        self.assertIs(is_pull(web, [1, 5, 0]), False)
        self.assertIs(is_pull(web, [0, 5, -1]), False)

    def test_bonds(self):
        for web in HAND_MADE:
            for bond in all_bonds(web):
                signs = [[sign if tie in bond else 0 for tie, sign in enumerate(some)]
                         for some in product((1, -1), repeat=len(web.ties))]
                self.assertTrue(any(is_pull(web, numbers) for numbers in signs), (str(web), bond))

    def test_no_ties(self):
        self.assertIs(is_pull(Web(1, []), []), True)
        self.assertIs(is_pull(Web(1, []), ()), True)
        self.assertIs(is_pull(Web(1, []), [0]), False)

    def test_any_value(self):
        for value in not_lists() + [[0], [0, 0], [0, 0, 0, 0], [[0, 0, 0]], [[0], [0], [0]], LARGE]:
            self.assertIs(is_pull(ring(3), value), False)
        for at, value in product(range(3), not_integers()):
            numbers = [0, 0, 0]
            numbers[at] = value
            self.assertIs(is_pull(ring(3), numbers), False)
        self.assertIs(is_pull(numbers=[1, 2, -3], web=ring(3)), True)

    def test_what_is_no_web(self):
        for value in not_webs():
            for numbers in ([], None, [0]):
                self.refuses(BadWeb, {"part": "web"}, is_pull, value, numbers)


class Basis(Case):

    def test_webs(self):
        for web in WEBS:
            heights = [[int(at == place) for at in range(web.places)] for place in range(1, web.places)]
            self.same_kind(pull_basis(web), tuple(tuple(pull_by(web, some)) for some in heights))
            self.same_kind(pull_basis(web=web), pull_basis(web))

    def test_of_one_kind(self):
        self.same_kind(pull_basis(Web(1, [])), ())
        self.same_kind(pull_basis(Web(1, [(0, 0)] * 12)), ((),) * 0)
        self.same_kind(pull_basis(Web(2, [(0, 1), (1, 0), (1, 1), (0, 0)])), ((1, -1, 0, 0),))
        self.same_kind(pull_basis(Web(2, [(0, 1)])), ((1,),))
        self.same_kind(len(pull_basis(LARGE[0])), 12)

    def test_each_pull_in_one_way(self):
        source = random.Random(43)
        for web in WEBS:
            if web.places > 1:
                heights = [0] + [source.randint(-GREAT, GREAT) for _ in range(web.places - 1)]
                self.assertEqual(list(combined(heights[1:], pull_basis(web))), pull_by(web, heights))

    def test_flows_and_pulls_share_nothing(self):
        for web in WEBS:
            for flow, pull in product(flow_basis(web), pull_basis(web)):
                self.assertEqual(share(flow, pull), 0)

    def test_what_is_no_web(self):
        for value in not_webs():
            self.refuses(BadWeb, {"part": "web"}, pull_basis, value)


class Pulls(Case):

    def test_webs(self):
        for web in WEBS:
            if 2 <= web.places <= 6:
                table = pull_table(web)
                self.assertIs(type(table), Table)
                self.same_kind(table.rows, tuple(map(tuple, squares(pull_basis(web)))))
                self.assertEqual(table, pull_table(web=web))
                self.assertEqual(table.determinant, many_trees(web))
                if 1 <= len(web.ties) - web.places + 1 <= 5:
                    self.assertEqual(flow_table(web).determinant, table.determinant)

    def test_points_stand_for_pulls(self):
        source = random.Random(44)
        for web in (full(4), full(5), ring(6), bundle(4)):
            table, basis = pull_table(web), pull_basis(web)
            for _ in range(20):
                one, other = [[source.randint(-9, 9) for _ in basis] for _ in range(2)]
                pulls = combined(one, basis), combined(other, basis)
                self.assertEqual(table.share(one, other), share(*pulls))
                self.assertEqual(table.length(one), share(pulls[0], pulls[0]))

    def test_one_place(self):
        for ties in (0, 1, 12):
            self.refuses(Misfit, {"part": "pulls"}, pull_table, Web(1, [(0, 0)] * ties))

    def test_six_places_and_seven(self):
        self.same_kind(pull_table(ring(6)).size, 5)
        self.same_kind(pull_table(Web(2, [(0, 1)])).rows, ((1,),))
        for web in (ring(7), LARGE[0], LARGE[2], ring(12)):
            self.refuses(TooMany, {"what": "rows", "most": 5}, pull_table, web)

    def test_what_is_no_web(self):
        for value in not_webs():
            self.refuses(BadWeb, {"part": "web"}, pull_table, value)


if __name__ == "__main__":
    unittest.main()
