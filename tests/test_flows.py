"""Flows: what lists share, what is a flow, the flow basis and its table."""

import random
import unittest
from itertools import product

from flowtells.errors import BadNumber, BadWeb, Misfit, TooMany
from flowtells.flows import flow_basis, flow_table, is_flow, share
from flowtells.tables import Table
from flowtells.webs import Web
from tests.helpers import GREAT, Case, not_integers, not_lists, not_webs
from tests.oracles import HAND_MADE, LARGE, all_rounds, all_trees, bundle, flows_in, full, random_webs, ring

WAYS = Web(5, [(0, 1), (0, 2), (2, 1), (0, 3), (3, 4), (4, 1)])
LINE = Web(3, [(2, 1), (1, 0)])


class Sharing(Case):

    def test_what_lists_share(self):
        self.same_kind(share([1, -2, 3], (4, 5, 0)), -6)
        self.same_kind(share((), []), 0)
        self.same_kind(share([], []), 0)
        self.same_kind(share(one=[3], other=(-7,)), -21)
        self.same_kind(share([GREAT, 1], [GREAT, -1]), GREAT * GREAT - 1)
        self.same_kind(share([2] * 4000, [3] * 4000), 24000)

    def test_what_are_no_integers(self):
        wrong = not_lists() + [[value] for value in not_integers()] + [(1, value) for value in not_integers()]
        for value in wrong:
            self.refuses(BadNumber, {"part": "one"}, share, value, [1])
            self.refuses(BadNumber, {"part": "other"}, share, [1], value)
            self.refuses(BadNumber, {"part": "one"}, share, value, value)

    def test_lists_that_are_not_as_long(self):
        for one, other in (([1, 2], [3]), ([], [0]), ([0], ()), ((1, 2), (1, 2, 3))):
            self.refuses(Misfit, {"part": "length"}, share, one, other)
        self.refuses(BadNumber, {"part": "other"}, share, [1, 2], [True])

    def test_what_was_passed_stays(self):
        one, other = [1, 2], [3, 4]
        share(one, other)
        self.same_kind([one, other], [[1, 2], [3, 4]])


class Flows(Case):

    def test_against_all_small_numbers(self):
        for web in HAND_MADE:
            if len(web.ties) > 6:
                continue
            for numbers in product((-1, 0, 1), repeat=len(web.ties)):
                self.assertIs(is_flow(web, numbers), flows_in(web, numbers))
                self.assertIs(is_flow(web, list(numbers)), flows_in(web, numbers))

    def test_great_numbers(self):
        web = ring(3)
        self.assertIs(is_flow(web, [GREAT] * 3), True)
        self.assertIs(is_flow(web, [-GREAT] * 3), True)
        self.assertIs(is_flow(web, [GREAT, GREAT, GREAT + 1]), False)
        self.assertIs(is_flow(numbers=(0, 0, 0), web=web), True)

    def test_loops_carry_any_number(self):
        web = Web(2, [(0, 0), (0, 1), (1, 1)])
        for one, other in ((0, 0), (5, -3), (-GREAT, GREAT)):
            self.assertIs(is_flow(web, [one, 0, other]), True)
            self.assertIs(is_flow(web, [one, 1, other]), False)

    def test_no_ties(self):
        self.assertIs(is_flow(Web(1, []), []), True)
        self.assertIs(is_flow(Web(1, []), ()), True)
        self.assertIs(is_flow(Web(1, []), [0]), False)

    def test_any_value(self):
        web = Web(1, [(0, 0)])
        for value in not_lists() + [[], [0, 0], [[0]], ((0,),)] + [[wrong] for wrong in not_integers()]:
            self.assertIs(is_flow(web, value), False)
        for at in range(3):
            for wrong in not_integers():
                numbers = [0, 0, 0]
                numbers[at] = wrong
                self.assertIs(is_flow(ring(3), numbers), False)
        for length in (0, 1, 2, 4, 13):
            self.assertIs(is_flow(ring(3), [0] * length), False)

    def test_what_is_no_web(self):
        for value in not_webs():
            self.refuses(BadWeb, {"part": "web"}, is_flow, value, [])
            self.refuses(BadWeb, {"part": "web"}, is_flow, value, None)


class Basis(Case):

    def test_webs(self):
        for web in HAND_MADE + LARGE + random_webs(14, 60, 8, 12):
            with self.subTest(web=str(web)):
                tree = all_trees(web)[0]
                others = [tie for tie in range(len(web.ties)) if tie not in tree]
                found = flow_basis(web)
                self.assertIs(type(found), tuple)
                self.assertEqual(len(found), len(others))
                for tie, flow in zip(others, found):
                    self.assertIs(type(flow), tuple)
                    self.assertEqual(len(flow), len(web.ties))
                    self.assertTrue(flows_in(web, flow))
                    self.same_kind([flow[at] for at in others], [int(at == tie) for at in others])
                    self.assertTrue(set(map(abs, flow)) <= {0, 1})
                    self.assertTrue(all(type(number) is int for number in flow))

    def test_each_goes_once_round_one_round(self):
        for web in HAND_MADE + random_webs(15, 20, 6, 8):
            circles = all_rounds(web)
            for flow in flow_basis(web):
                self.assertIn(tuple(tie for tie, number in enumerate(flow) if number), circles)

    def test_of_one_kind(self):
        self.same_kind(flow_basis(Web(1, [])), ())
        self.same_kind(flow_basis(LINE), ())
        self.same_kind(flow_basis(LARGE[0]), ())
        self.same_kind(flow_basis(Web(1, [(0, 0)] * 2)), ((1, 0), (0, 1)))
        self.same_kind(flow_basis(Web(2, [(0, 1), (0, 1), (1, 0)])), ((-1, 1, 0), (1, 0, 1)))
        self.same_kind(flow_basis(web=ring(12)), ((1,) * 12,))
        self.same_kind(flow_basis(Web(3, [(0, 1), (2, 1), (0, 2)])), ((-1, 1, 1),))
        self.same_kind(flow_basis(Web(3, [(1, 0), (1, 2), (0, 2)])), ((1, -1, 1),))

    def test_what_is_no_web(self):
        for value in not_webs():
            self.refuses(BadWeb, {"part": "web"}, flow_basis, value)


class Tables(Case):

    def test_webs(self):
        for web in HAND_MADE + random_webs(16, 60, 8, 12):
            basis = flow_basis(web)
            if not basis:
                self.refuses(Misfit, {"part": "flows"}, flow_table, web)
            elif len(basis) > 5:
                self.refuses(TooMany, {"what": "rows", "most": 5}, flow_table, web)
            else:
                found = flow_table(web)
                self.assertIs(type(found), Table)
                wanted = tuple(tuple(sum(a * b for a, b in zip(p, q)) for q in basis) for p in basis)
                self.same_kind(found.rows, wanted)
                self.assertEqual(found.determinant, len(all_trees(web)))

    def test_points_stand_for_flows(self):
        source = random.Random(17)
        for web in (full(4), WAYS, bundle(6), Web(1, [(0, 0)] * 5)):
            basis, table = flow_basis(web), flow_table(web)
            points = [[source.randint(-4, 4) for _ in basis] for _ in range(6)]
            flows = [[sum(n * flow[at] for n, flow in zip(point, basis)) for at in range(len(web.ties))]
                     for point in points]
            for one, flow in zip(points, flows):
                self.assertEqual(table.length(one), share(flow, flow))
                self.assertEqual([table.share(one, other) for other in points], [share(flow, by) for by in flows])

    def test_five_flows_and_six(self):
        for web in (Web(1, [(0, 0)] * 5), bundle(6), Web(6, [(at, (at + 1) % 6) for at in range(6)] + [(0, 3)] * 4)):
            self.assertEqual(flow_table(web).size, 5)
            more = Web(web.places, web.ties + ((0, 0),))
            self.refuses(TooMany, {"what": "rows", "most": 5}, flow_table, more)
        self.refuses(TooMany, {"what": "rows", "most": 5}, flow_table, Web(1, [(0, 0)] * 12))
        self.same_kind(flow_table(web=Web(1, [(0, 0)])).rows, ((1,),))
        self.same_kind(flow_table(ring(12)).rows, ((12,),))

    def test_no_flows(self):
        for web in (Web(1, []), LINE, LARGE[0], LARGE[2], Web(2, [(0, 1)])):
            self.refuses(Misfit, {"part": "flows"}, flow_table, web)

    def test_what_is_no_web(self):
        for value in not_webs():
            self.refuses(BadWeb, {"part": "web"}, flow_table, value)


if __name__ == "__main__":
    unittest.main()
