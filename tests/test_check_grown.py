"""The check of papers that tell a web for a lot: right ones told in other ways, and papers bent at each part."""

import random
import unittest
from itertools import combinations, product

from flowtells.bars import LotOf
from flowtells.check_grown import shows_grown
from flowtells.errors import BadLot
from flowtells.grown import Grown, grown
from flowtells.lots import Lot, lot_of
from flowtells.papers import Denial, Paper
from flowtells.unwebbed import NoWeb, unwebbed
from flowtells.webs import Web
from tests.grown_oracles import CUBES, bears, retold, shapes
from tests.helpers import GREAT, Case, LikeWeb, not_integers, not_lists, not_lots, not_webs
from tests.lot_oracles import KFIVE, KSIX, random_lots, seen_from
from tests.oracles import bundle, full, ring
from tests.table_oracles import basis_of

THREE = Lot([(1, 0), (0, 1), (1, -1)], [1, 3, 2])
BUNDLE, TIMES, FLOWS = Web(2, [(0, 1), (1, 0), (1, 0)]), (1, 3, 2), ((1, 0, 1), (0, 1, -1))


class Bent(Grown):
    """A class below Grown: no value of it is a Grown."""


def some_lots(seed):
    """Lots of webs, in near bases and far ones."""
    source = random.Random(seed)
    found = []
    for web in shapes(seed, 8):
        some = lot_of(web)
        far = seen_from(some.rows, basis_of(source, some.size, source.choice((0, 2, 18))))
        found.append(Lot(far, [source.choice((times, GREAT)) for times in some.times]))
    return found


class Right(Case):

    def asks(self, some, *parts):
        self.assertIs(shows_grown(some, Grown(*parts)), True, parts)

    def test_by_hand(self):
        self.asks(THREE, BUNDLE, TIMES, FLOWS)
        self.asks(THREE, BUNDLE, list(TIMES), [list(flow) for flow in FLOWS])
        self.asks(THREE, Web(2, [(1, 0), (1, 0), (1, 0)]), TIMES, ((-1, 0, 1), (0, 1, -1)))
        self.asks(Lot([[1]], [4]), Web(1, [(0, 0)]), (4,), ((-1,),))
        self.asks(Lot([[1, 0], [0, 1]], [2, 2]), Web(1, [(0, 0), (0, 0)]), (2, 2), ((0, -1), (1, 0)))

    def test_told_in_another_way(self):
        source = random.Random(231)
        for some in some_lots(232):
            paper = grown(some)
            for _ in range(4):
                self.asks(some, *retold(source, *paper.parts))

    def test_hung_in_another_way(self):
        some = Lot([(1, 0, 0), (0, 1, 0), (1, 1, 0), (0, 0, 1)], [1, 2, 3, 4])
        ties, times, flows = [(0, 1), (0, 1), (1, 0)], (1, 2, 3, 4), ((1, 0, 1, 0), (0, 1, 1, 0), (0, 0, 0, 1))
        self.asks(some, Web(2, ties + [(0, 0)]), times, flows)
        self.asks(some, Web(2, ties + [(1, 1)]), times, flows)

    def test_by_name(self):
        self.assertIs(shows_grown(value=Grown(BUNDLE, TIMES, FLOWS), lot=THREE), True)


class Wrong(Case):

    def asks(self, some, *parts):
        self.assertIs(shows_grown(some, Grown(*parts)), False, parts)

    def test_bridges(self):
        # A bridge carries nothing, so all else is as told.
        self.asks(THREE, Web(3, list(BUNDLE.ties) + [(1, 2)]), TIMES + (1,), [flow + (0,) for flow in FLOWS])
        self.asks(THREE, Web(3, list(BUNDLE.ties) + [(2, 0)]), TIMES + (5,), [flow + (0,) for flow in FLOWS])
        self.asks(Lot([[1]], [4]), Web(2, [(0, 0), (0, 1)]), (4, 1), [(1, 0)])

    def test_ties_in_a_row(self):
        self.asks(Lot([[1]], [4]), ring(2), (2, 2), ((1, 1),))
        self.asks(Lot([[1]], [4]), ring(4), (1,) * 4, ((1,) * 4,))
        # The tie of three times falls into one of two times and one of one.
        longer = Web(3, [(0, 1), (1, 2), (2, 0), (1, 0)])
        self.asks(THREE, longer, (1, 2, 1, 2), ((1, 0, 0, 1), (0, 1, 1, -1)))

    def test_flows_that_are_no_basis(self):
        self.asks(Lot([[1]], [4]), Web(1, [(0, 0)]), (1,), ((2,),))
        # The table of two loops, four times each, is that of two loops with flows that come in even numbers alone.
        self.asks(Lot([[1, 0], [0, 1]], [4, 4]), Web(1, [(0, 0)] * 2), (1, 1), ((2, 0), (0, 2)))
        self.asks(Lot([[1, 0], [0, 1]], [2, 2]), Web(1, [(0, 0)] * 2), (1, 1), ((1, 1), (1, -1)))
        self.asks(Lot([[1, 0], [0, 1]], [2, 2]), bundle(3), (1, 1, 1), ((1, 1, 0), (1, -1, 0)))
        self.asks(THREE, BUNDLE, TIMES, (FLOWS[0], FLOWS[0]))

    def test_fewer_and_more_flows(self):
        self.asks(THREE, BUNDLE, TIMES, FLOWS[:1])
        self.asks(THREE, BUNDLE, TIMES, FLOWS + ((0, 0, 0),))
        self.asks(THREE, BUNDLE, TIMES, ())
        self.asks(Lot([[1]], [4]), Web(1, [(0, 0), (0, 0)]), (4, 1), ((1, 0),))
        self.asks(Lot([[1]], [4]), Web(1, []), (), ())
        self.asks(Lot([[1]], [4]), Web(1, []), (), ((),))
        self.asks(Lot([[1]], [4]), Web(1, [(0, 0)]), (4,), ((),))
        # Twelve loops have more flows than a table has rows.
        self.asks(Lot([[1]], [4]), Web(1, [(0, 0)] * 12), (1,) * 12, ((1,) * 12,))

    def test_each_number_bent(self):
        for some in some_lots(233)[::4]:
            web, times, flows = grown(some).parts
            for tie in range(len(times)):
                for more in (-1, 1, GREAT, -times[tie]):
                    self.asks(some, web, times[:tie] + (times[tie] + more,) + times[tie + 1:], flows)
                for at, more in product(range(len(flows)), (-1, 1)):
                    flow = flows[at][:tie] + (flows[at][tie] + more,) + flows[at][tie + 1:]
                    self.asks(some, web, times, flows[:at] + (flow,) + flows[at + 1:])

    def test_ends_moved(self):
        source, asked = random.Random(234), {True: 0, False: 0}
        for some in some_lots(235)[::2]:
            web, times, flows = grown(some).parts
            for tie, side in product(range(len(web.ties)), range(2)):
                ties = [list(pair) for pair in web.ties]
                ties[tie][side] = source.randrange(web.places)
                try:
                    moved = Web(web.places, ties)
                except ValueError:
                    continue
                wanted = bears(moved, times, flows, some.table.rows)
                asked[wanted] += 1
                self.assertIs(shows_grown(some, Grown(moved, times, flows)), wanted)
        self.assertGreater(min(asked.values()), 10)

    def test_a_tie_turned_about(self):
        for web in CUBES[:2]:
            some = lot_of(web)
            told_web, times, flows = grown(some).parts
            for tie in range(12):
                ties = list(told_web.ties)
                ties[tie] = ties[tie][::-1]
                self.asks(some, Web(8, ties), times, flows)
                turned = [flow[:tie] + (-flow[tie],) + flow[tie + 1:] for flow in flows]
                self.asks(some, told_web, times, turned)
                self.assertIs(shows_grown(some, Grown(Web(8, ties), times, turned)), True)

    def test_a_tie_more_or_less(self):
        for some in some_lots(236)[::3]:
            web, times, flows = grown(some).parts
            for ends in ((0, 0), (0, web.places - 1)):
                if len(web.ties) < 12:
                    more = Web(web.places, list(web.ties) + [ends])
                    self.asks(some, more, times + (1,), [flow + (0,) for flow in flows])
                    self.asks(some, more, times, flows)
                    self.asks(some, web, times + (1,), flows)
            for tie in range(len(web.ties)):
                left = [pair for at, pair in enumerate(web.ties) if at != tie]
                fewer = [flow[:tie] + flow[tie + 1:] for flow in flows]
                try:
                    self.asks(some, Web(web.places, left), times[:tie] + times[tie + 1:], fewer)
                    self.asks(some, Web(web.places, left), times, flows)
                except ValueError:
                    continue

    def test_exchanges(self):
        asked = {True: 0, False: 0}
        for some in some_lots(237)[::2]:
            web, times, flows = grown(some).parts
            for one, other in combinations(range(len(times)), 2):
                bent = list(times)
                bent[one], bent[other] = bent[other], bent[one]
                self.assertIs(shows_grown(some, Grown(web, bent, flows)), times[one] == times[other])
            for one, other in combinations(range(len(flows)), 2):
                bent = list(flows)
                bent[one], bent[other] = bent[other], bent[one]
                wanted = bears(web, times, bent, some.table.rows)
                asked[wanted] += 1
                self.assertIs(shows_grown(some, Grown(web, times, bent)), wanted)
                self.asks(some, web, times, flows[:one] + (flows[other],) + flows[one + 1:])
            for at, flow in enumerate(flows):
                bent = flows[:at] + (tuple(-number for number in flow),) + flows[at + 1:]
                self.assertIs(shows_grown(some, Grown(web, times, bent)), bears(web, times, bent, some.table.rows))
        self.assertGreater(asked[False], 10)


class Parts(Case):

    def asks(self, *parts, some=THREE):
        self.assertIs(shows_grown(some, Grown(*parts)), False, parts)

    def test_what_is_no_web(self):
        for value in not_webs() + [BUNDLE.ties, str(BUNDLE), LikeWeb(), THREE, THREE.table]:
            self.asks(value, TIMES, FLOWS)

    def test_what_is_no_list(self):
        for value in not_lists() + [THREE, BUNDLE]:
            self.asks(BUNDLE, value, FLOWS)
            self.asks(BUNDLE, TIMES, value)
            for at in range(2):
                self.asks(BUNDLE, TIMES, FLOWS[:at] + (value,) + FLOWS[at + 1:])
        for value in ([], [1, 3], [1, 3, 2, 1], [[1], [3], [2]]):
            self.asks(BUNDLE, value, FLOWS)

    def test_what_is_no_number(self):
        for at in range(3):
            for value in not_integers() + [0, -1, -GREAT]:
                self.asks(BUNDLE, TIMES[:at] + (value,) + TIMES[at + 1:], FLOWS)
            for by, value in product(range(2), not_integers()):
                flow = FLOWS[by][:at] + (value,) + FLOWS[by][at + 1:]
                self.asks(BUNDLE, TIMES, FLOWS[:by] + (flow,) + FLOWS[by + 1:])

    def test_truths_for_numbers(self):
        self.asks(BUNDLE, (True, 3, 2), FLOWS)
        self.asks(BUNDLE, TIMES, ((True, 0, 1), (0, 1, -1)))
        self.asks(BUNDLE, TIMES, ((1, False, 1), (0, 1, -1)))
        self.asks(BUNDLE, TIMES, ((True, False, True), (False, True, -1)))
        self.asks(Web(1, [(0, 0)]), (True,), ((1,),), some=Lot([[1]], [1]))
        self.asks(Web(1, [(0, 0)]), (1,), ((True,),), some=Lot([[1]], [1]))

    def test_parts_in_another_order(self):
        for parts in ((TIMES, BUNDLE, FLOWS), (BUNDLE, FLOWS, TIMES), (FLOWS, TIMES, BUNDLE)):
            self.asks(*parts)


class Values(Case):

    def test_values_that_are_no_grown(self):
        right = Grown(BUNDLE, TIMES, FLOWS)
        self.assertIs(shows_grown(THREE, right), True)
        for value in not_lists() + [
                THREE, BUNDLE, right.parts, list(right.parts), Paper("grown", *right.parts), Denial("grown", *right.parts),
                Bent(*right.parts), Grown, [right], LotOf(THREE), Grown(right, right, right), NoWeb(*right.parts)]:
            self.assertIs(shows_grown(THREE, value), False)

    def test_denials(self):
        for rows in (KFIVE, KSIX):
            some = Lot(rows, [1] * len(rows))
            self.assertIs(shows_grown(some, unwebbed(some)), False)
            self.assertIs(shows_grown(some, grown(some)), False)
            self.assertIs(shows_grown(THREE, grown(some)), False)

    def test_papers_of_another_lot(self):
        lots = some_lots(238)[::3] + [THREE] + random_lots(239, 6)
        for some, other in product(lots, lots):
            paper = grown(other)
            if paper:
                self.assertIs(shows_grown(some, paper), some.table.rows == other.table.rows)

    def test_a_web_for_a_lot_of_no_web(self):
        some = Lot(KFIVE, [1] * 10)
        flows = list(zip(*some.rows))
        self.assertIs(shows_grown(some, Grown(full(5), [1] * 10, flows)), False)


class Refused(Case):

    def test_what_is_no_lot(self):
        for value in not_lots():
            for paper in (None, Grown(BUNDLE, TIMES, FLOWS)):
                self.refuses(BadLot, {"part": "lot"}, shows_grown, value, paper)


if __name__ == "__main__":
    unittest.main()
