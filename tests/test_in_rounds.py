"""Flows told as sums of flows once round one round each, and the check of such papers."""

import random
import unittest

from flowtells.errors import BadNumber, BadWeb
from flowtells.flows import InRounds, flow_basis, in_rounds, shows_in_rounds
from flowtells.papers import Denial, Paper
from flowtells.webs import Web
from tests.helpers import GREAT, Case, not_integers, not_lists, not_webs
from tests.oracles import HAND_MADE, LARGE, all_rounds, flows_in, random_webs, ring

THREE = Web(2, [(0, 1), (0, 1), (0, 1)])
LINE = Web(3, [(2, 1), (1, 0)])
# Each of its three steps can be gone along one of two ties: eight rounds go one way.
TWOFOLD = Web(3, [(0, 1), (1, 2), (2, 0)] * 2)


class Bent(InRounds):
    """A class below InRounds: no value of it is an InRounds."""


def random_flow(source, web, most):
    """A flow of a web, each flow of the basis taken some times."""
    flow = [0] * len(web.ties)
    for part in flow_basis(web):
        times = source.randint(-most, most)
        flow = [number + times * by for number, by in zip(flow, part)]
    return flow


def is_right(web, flow, pairs, circles):
    """Whether these pairs are told as a paper tells them, by the words of the document."""
    if len(pairs) > len(web.ties) or len({circle for circle, _ in pairs}) < len(pairs):
        return False
    for circle, times in pairs:
        used = tuple(tie for tie, number in enumerate(circle) if number != 0)
        if type(times) is not int or times < 1 or used not in circles or not flows_in(web, circle):
            return False
        if any(circle[tie] not in (1, -1) or circle[tie] * flow[tie] <= 0 for tie in used):
            return False
    sums = [sum(circle[tie] * times for circle, times in pairs) for tie in range(len(web.ties))]
    return sums == list(flow)


class Papers(Case):

    def test_a_paper_of_pairs(self):
        paper = InRounds([[[-1, 0], 7]])
        self.same_kind([paper.word, paper.parts, paper.pairs], ["inrounds", ((((-1, 0), 7),),), (((-1, 0), 7),)])
        self.assertIs(bool(paper), True)
        self.assertIs(bool(InRounds([])), True)
        self.assertEqual(InRounds.__bases__, (Paper,))
        self.assertNotIsInstance(paper, Denial)
        self.assertTrue(paper == InRounds(pairs=(((-1, 0), 7),)))
        self.assertFalse(paper == InRounds([[[-1, 0], 8]]))
        self.assertFalse(paper == Paper("inrounds", [[[-1, 0], 7]]))

    def test_any_values(self):
        for value in (None, 5, "pairs", True, {"a": 1}):
            self.assertIs(InRounds(value).pairs, value)

    def test_a_list_changed_later(self):
        pair = [[1], 2]
        paper = InRounds([pair])
        pair[0][0] = 5
        pair.append(1)
        self.same_kind(paper.pairs, (((1,), 2),))


class Told(Case):

    def test_webs(self):
        source = random.Random(18)
        for web in HAND_MADE + LARGE + random_webs(19, 60, 8, 12):
            circles = all_rounds(web) if len(web.ties) < 10 else None
            for most in (1, 2, 9, GREAT):
                flow = random_flow(source, web, most)
                with self.subTest(web=str(web), flow=flow):
                    paper = in_rounds(web, flow)
                    self.assertIs(type(paper), InRounds)
                    self.assertIs(shows_in_rounds(web, flow, paper), True)
                    self.assertEqual(in_rounds(web, tuple(flow)), paper)
                    self.assertIs(shows_in_rounds(web, tuple(flow), InRounds(paper.pairs[::-1])), True)
                    if circles is not None:
                        self.assertTrue(is_right(web, flow, paper.pairs, circles))

    def test_noughts(self):
        for web in (LINE, THREE, Web(1, []), Web(1, [(0, 0)]), LARGE[0]):
            noughts = [0] * len(web.ties)
            self.same_kind(in_rounds(web, noughts).pairs, ())
            self.assertIs(shows_in_rounds(web, noughts, InRounds([])), True)
            self.assertIs(shows_in_rounds(web, noughts, InRounds(())), True)

    def test_of_one_kind(self):
        self.same_kind(in_rounds(ring(4), [5] * 4).pairs, (((1, 1, 1, 1), 5),))
        self.same_kind(in_rounds(ring(4), [-GREAT] * 4).pairs, (((-1, -1, -1, -1), GREAT),))
        self.same_kind(in_rounds(flow=(-7,), web=Web(1, [(0, 0)])).pairs, (((-1,), 7),))
        loops = in_rounds(Web(1, [(0, 0)] * 3), [2, 0, -3])
        self.same_kind(sorted(loops.pairs), [((0, 0, -1), 3), ((1, 0, 0), 2)])

    def test_what_was_passed_stays(self):
        flow = [2, -1, -1]
        paper = in_rounds(THREE, flow)
        self.same_kind(flow, [2, -1, -1])
        flow[0] = 9
        self.same_kind(sorted(paper.pairs), [((1, -1, 0), 1), ((1, 0, -1), 1)])
        self.assertEqual(str(THREE), "2 : 0 1 0 1 0 1")


class Shown(Case):

    def asks(self, wanted, web, flow, pairs):
        self.assertIs(shows_in_rounds(web, flow, InRounds(pairs)), wanted, pairs)

    def test_right_papers_that_in_rounds_need_not_return(self):
        flow = [1, 1, 1, 1, 1, 1]
        self.asks(True, TWOFOLD, flow, [[[1, 1, 1, 0, 0, 0], 1], [[0, 0, 0, 1, 1, 1], 1]])
        self.asks(True, TWOFOLD, flow, [((0, 1, 1, 1, 0, 0), 1), ((1, 0, 0, 0, 1, 1), 1)])
        self.asks(True, TWOFOLD, flow, (((1, 1, 0, 0, 0, 1), 1), [[0, 0, 1, 1, 1, 0], 1]))
        self.asks(True, TWOFOLD, [3, 2, 2, 0, 1, 1], [
            [[1, 1, 1, 0, 0, 0], 1], [[1, 0, 1, 0, 1, 0], 1], [[1, 1, 0, 0, 0, 1], 1]])

    def test_in_any_order(self):
        pairs = [[[1, -1, 0], 1], [[1, 0, -1], 1]]
        self.asks(True, THREE, [2, -1, -1], pairs)
        self.asks(True, THREE, [2, -1, -1], pairs[::-1])

    def test_times_that_are_wrong(self):
        for times in not_integers() + [0, -5, 4, 6, GREAT, -GREAT]:
            self.asks(False, ring(3), [5, 5, 5], [[[1, 1, 1], times]])
        self.asks(True, ring(3), [5, 5, 5], [[[1, 1, 1], 5]])
        self.asks(False, ring(3), [1, 1, 1], [[[1, 1, 1], True]])
        self.asks(False, ring(3), [-5, -5, -5], [[[1, 1, 1], -5]])
        self.asks(False, ring(3), [0, 0, 0], [[[1, 1, 1], 0]])
        two = [[[1, 1, 1, 0, 0, 0], 1], [[0, 0, 0, 1, 1, 1], 1]]
        self.asks(True, TWOFOLD, [1] * 6, two)
        self.asks(False, TWOFOLD, [1] * 6, two + [[[1, 0, 1, 0, 1, 0], 0]])

    def test_flows_that_are_wrong(self):
        flow = [2, 2, 2]
        for at in range(3):
            for number in not_integers() + [0, -1, 2, GREAT]:
                circle = [1, 1, 1]
                circle[at] = number
                self.asks(False, ring(3), flow, [[circle, 2]])
        for circle in not_lists() + [[], [1], [1, 1], [1, 1, 1, 1], [[1, 1, 1]], [-1, -1, -1], [0, 0, 0]]:
            self.asks(False, ring(3), flow, [[circle, 2]])
            self.asks(False, ring(3), flow, [[[1, 1, 1], 2], [circle, 1]])
        self.asks(False, ring(3), flow, [[[2, 2, 2], 1]])

    def test_flows_round_two_rounds_at_once(self):
        loops = Web(1, [(0, 0), (0, 0)])
        self.asks(False, loops, [3, 3], [[[1, 1], 3]])
        self.asks(True, loops, [3, 3], [[[1, 0], 3], [[0, 1], 3]])
        bow = Web(3, [(0, 1), (1, 0), (1, 2), (2, 1)])
        self.asks(False, bow, [1, 1, 1, 1], [[[1, 1, 1, 1], 1]])
        self.asks(True, bow, [1, 1, 1, 1], [[[1, 1, 0, 0], 1], [[0, 0, 1, 1], 1]])

    def test_numbers_round_a_round_that_are_no_flow(self):
        four = Web(2, [(0, 1)] * 4)
        self.asks(False, four, [1, 1, -1, -1], [[[1, 1, 0, 0], 1], [[0, 0, -1, -1], 1]])
        self.asks(True, four, [1, 1, -1, -1], [[[1, 0, -1, 0], 1], [[0, 1, 0, -1], 1]])

    def test_flows_against_the_way(self):
        self.asks(False, THREE, [2, -1, -1], [[[1, -1, 0], 2], [[0, 1, -1], 1]])
        self.asks(False, THREE, [1, -1, 0], [[[1, 0, -1], 1], [[0, -1, 1], 1]])
        self.asks(False, ring(3), [1, 1, 1], [[[1, 1, 1], 2], [[-1, -1, -1], 1]])
        self.asks(False, ring(3), [0, 0, 0], [[[1, 1, 1], 1], [[-1, -1, -1], 1]])

    def test_sums_that_are_wrong(self):
        self.asks(False, THREE, [2, -1, -1], [[[1, -1, 0], 1]])
        self.asks(False, THREE, [2, -1, -1], [[[1, -1, 0], 1], [[1, 0, -1], 2]])
        self.asks(False, THREE, [2, -1, -1], [])
        self.asks(False, ring(3), [GREAT] * 3, [[[1, 1, 1], GREAT + 1]])

    def test_the_same_flow_twice(self):
        self.asks(False, ring(3), [5, 5, 5], [[[1, 1, 1], 2], [[1, 1, 1], 3]])
        self.asks(False, ring(3), [5, 5, 5], [[[1, 1, 1], 2], [(1, 1, 1), 3]])

    def test_more_pairs_than_ties(self):
        ways = [[1 - a, 1 - b, 1 - c, a, b, c] for a in (0, 1) for b in (0, 1) for c in (0, 1)]
        self.asks(False, TWOFOLD, [4] * 6, [[way, 1] for way in ways])
        six = [way for way in ways if way not in ([1, 1, 1, 0, 0, 0], [0, 0, 0, 1, 1, 1])]
        self.asks(True, TWOFOLD, [3] * 6, [[way, 1] for way in six])
        seven = six + [[1, 1, 1, 0, 0, 0]]
        self.asks(False, TWOFOLD, [4, 4, 4, 3, 3, 3], [[way, 1] for way in seven])

    def test_pairs_that_are_none(self):
        right = [[1, 1, 1], 5]
        for pair in not_lists() + [[], [[1, 1, 1]], [[1, 1, 1], 5, 5], [5, [1, 1, 1]], [5, 5], "ab", [[1, 1, 1], [5]]]:
            self.asks(False, ring(3), [5, 5, 5], [pair])
            self.asks(False, ring(3), [5, 5, 5], [right, pair])
            self.asks(False, ring(3), [5, 5, 5], [pair, right])
        for pairs in not_lists() + [[1, 1, 1], right]:
            self.asks(False, ring(3), [5, 5, 5], pairs)
            self.asks(False, ring(3), [0, 0, 0], pairs)

    def test_values_that_are_no_in_rounds(self):
        pairs = (((1, 1, 1), 5),)
        right = InRounds(pairs)
        self.assertIs(shows_in_rounds(value=right, flow=[5, 5, 5], web=ring(3)), True)
        for value in not_lists() + not_webs() + [
                pairs, list(pairs), Paper("inrounds", pairs), Denial("inrounds", pairs), Bent(pairs), [right],
                InRounds, ring(3)]:
            self.assertIs(shows_in_rounds(ring(3), [5, 5, 5], value), False)
            self.assertIs(shows_in_rounds(ring(3), [0, 0, 0], value), False)

    def test_papers_of_another_flow_or_web(self):
        paper = in_rounds(ring(3), [5, 5, 5])
        self.assertIs(shows_in_rounds(ring(3), [5, 5, 5], paper), True)
        self.assertIs(shows_in_rounds(ring(3), [4, 4, 4], paper), False)
        self.assertIs(shows_in_rounds(ring(4), [5, 5, 5, 5], paper), False)
        self.assertIs(shows_in_rounds(ring(2), [5, 5], paper), False)

    def test_papers_bent_at_each_part(self):
        source, asked = random.Random(20), {True: 0, False: 0}
        for web in [web for web in HAND_MADE + random_webs(21, 40, 6, 8) if flow_basis(web)]:
            circles = all_rounds(web)
            flow = random_flow(source, web, 4)
            pairs = in_rounds(web, flow).pairs
            for at in range(len(pairs)):
                (circle, times), rest = pairs[at], pairs[:at] + pairs[at + 1:]
                bent = [rest, rest + ((circle, times + 1),), rest + ((circle, times - 1),), pairs + (pairs[at],)]
                bent.append(rest + ((tuple(-number for number in circle), times),))
                for tie in range(len(circle)):
                    for number in (-1, 0, 1):
                        bent.append(rest + ((circle[:tie] + (number,) + circle[tie + 1:], times),))
                for found in bent:
                    wanted = is_right(web, flow, found, circles)
                    asked[wanted] += 1
                    self.asks(wanted, web, flow, found)
        self.assertGreater(min(asked.values()), 50)


class Refused(Case):

    def test_what_is_no_web(self):
        for value in not_webs():
            self.refuses(BadWeb, {"part": "web"}, in_rounds, value, [])
            self.refuses(BadWeb, {"part": "web"}, in_rounds, value, None)
            self.refuses(BadWeb, {"part": "web"}, shows_in_rounds, value, None, None)

    def test_what_is_no_flow(self):
        wrong = not_lists() + [[], [1], [1, 1], [1, 1, 1, 1], [1, 1, 0], [1, 1, 1 + GREAT], [[1, 1, 1]]]
        wrong += [[0, 0, value] for value in not_integers()]
        for value in wrong:
            self.refuses(BadNumber, {"part": "flow"}, in_rounds, ring(3), value)
            self.refuses(BadNumber, {"part": "flow"}, shows_in_rounds, ring(3), value, None)
            self.refuses(BadNumber, {"part": "flow"}, shows_in_rounds, ring(3), value, InRounds([]))


if __name__ == "__main__":
    unittest.main()
