"""The check of papers that tell which web bears a table, or why none does."""

import random
import unittest
from itertools import combinations, product

from flowtells.bars import LotOf, NoLot, lot
from flowtells.check_told import shows_told
from flowtells.errors import BadTable
from flowtells.flows import flow_basis, flow_table
from flowtells.grown import Grown
from flowtells.lots import Lot
from flowtells.papers import Denial, Paper
from flowtells.rows import small_rows
from flowtells.tables import Table
from flowtells.told import told
from flowtells.unwebbed import NoWeb
from flowtells.webs import Web
from tests.grown_oracles import bears, retold, shapes
from tests.helpers import GREAT, Case, not_integers, not_lists, not_tables
from tests.lot_oracles import FULL, KFIVE, KSIX, NEITHER, bars_it, random_lots, seen_from, shows_it, star_tables
from tests.oracles import ring
from tests.table_oracles import (
    HAND_TABLES, STARS, bar_changed, basis_of, changed, combined, one_of, random_table, some_tables)

WAYS = Table([[3, -2], [-2, 5]])
BUNDLE, TIMES, FLOWS = Web(2, [(0, 1), (1, 0), (1, 0)]), (1, 3, 2), ((1, 0, 1), (0, 1, -1))
FIVE = Lot(KFIVE, [1] * 10).table
NONE = STARS[0]


class BentWeb(Grown):
    """A class below Grown: no value of it is a Grown."""


class BentNoWeb(NoWeb):
    """A class below NoWeb: no value of it is a NoWeb."""


class BentNoLot(NoLot):
    """A class below NoLot: no value of it is a NoLot."""


def is_right(table, paper):
    """Whether a paper of numbers that are such is right for a table, by the words of the document."""
    if type(paper) is Grown:
        return bears(paper.web, paper.times, paper.flows, table.rows)
    if type(paper) is NoWeb:
        found = lot(table)
        if not found or max(paper.kept + paper.idle) >= len(found.lot.rows):
            return False
        return shows_it(found.lot, paper.kept, paper.idle, paper.names)
    return len(paper.bar) == table.size and bars_it(table, small_rows(table), paper.bar)


def tables_of(seed):
    """Tables of webs, of lots that are no web's, and of no lots."""
    source = random.Random(seed)
    found = [flow_table(web) for web in shapes(seed, 4)][::3]
    found += [Lot(rows, [source.randint(1, 5) for _ in rows]).table for rows in (KFIVE, KSIX, FULL, NEITHER)]
    found += [some.table for some in random_lots(seed, 6)]
    return found + STARS + star_tables()[4:7] + [random_table(source, size, 2) for size in (1, 2, 3, 4, 4, 5, 5)]


class Right(Case):

    def asks(self, table, paper):
        self.assertIs(shows_told(table, paper), True, (table.rows, paper.parts))

    def test_by_hand(self):
        self.asks(WAYS, Grown(BUNDLE, TIMES, FLOWS))
        self.asks(WAYS, Grown(BUNDLE, list(TIMES), [list(flow) for flow in FLOWS]))
        self.asks(Table([[4]]), Grown(Web(1, [(0, 0)]), [4], [[-1]]))
        self.asks(NONE, NoLot([[-number for number in row] for row in one_of(4)]))
        self.assertIs(shows_told(value=Grown(BUNDLE, TIMES, FLOWS), table=WAYS), True)

    def test_lists_within_papers(self):
        for table in tables_of(261):
            paper = told(table)
            if type(paper) is Grown:
                self.asks(table, Grown(paper.web, list(paper.times), list(map(list, paper.flows))))
            elif type(paper) is NoWeb:
                self.asks(table, NoWeb(list(paper.kept), list(paper.idle), list(map(list, paper.names))))
            else:
                self.asks(table, NoLot(list(map(list, paper.bar))))

    def test_webs_told_in_another_way(self):
        source = random.Random(262)
        for table in tables_of(263):
            paper = told(table)
            if paper:
                for _ in range(3):
                    self.asks(table, Grown(*retold(source, *paper.parts)))

    def test_a_web_as_it_is(self):
        # A web without bridges and ties in a row bears its own table, each tie once.
        asked = 0
        for web in shapes(264, 10):
            paper = Grown(web, [1] * len(web.ties), flow_basis(web))
            table = flow_table(web)
            wanted = bears(web, paper.times, paper.flows, table.rows)
            asked += wanted
            self.assertIs(shows_told(table, paper), wanted)
        self.assertGreater(asked, 12)

    def test_names_told_in_another_way(self):
        source = random.Random(265)
        for table in (FIVE, Lot(KSIX, [2] * 9).table):
            paper = told(table)
            for _ in range(10):
                order = source.sample(range(5), 5)
                if table.size == 5:
                    order = source.sample(range(3), 3) + source.sample(range(3, 6), 3)
                names = [sorted((order[one], order[other])) for one, other in paper.names]
                self.asks(table, NoWeb(paper.kept, paper.idle, names))

    def test_bars_many_times(self):
        for table in STARS:
            paper = told(table)
            self.asks(table, NoLot([[7 * number for number in row] for row in paper.bar]))
            self.asks(table, NoLot([[GREAT * number for number in row] for row in paper.bar]))


class Carried(Case):
    """Papers carried over with a basis are right of the changed table; not carried they are only if they are."""

    def test_carried_and_not(self):
        source, asked = random.Random(266), {True: 0, False: 0}
        for table, most in product(tables_of(267), (0, 3, 15)):
            points = basis_of(source, table.size, most)
            far, paper = Table(changed(table.rows, points)), told(table)
            self.assertIs(shows_told(far, self.carried(table, far, points, paper)), True)
            wanted = is_right(far, paper)
            asked[wanted] += 1
            self.assertIs(shows_told(far, paper), wanted)
        self.assertGreater(min(asked.values()), 5)

    def carried(self, table, far, points, paper):
        if type(paper) is Grown:
            return Grown(paper.web, paper.times, [combined(point, paper.flows) for point in points])
        if type(paper) is NoLot:
            return NoLot(bar_changed(paper.bar, points))
        rows = seen_from(lot(table).lot.rows, points)
        known = lot(far).lot.rows
        kept = sorted((known.index(rows[at]), names) for at, names in zip(paper.kept, paper.names))
        idle = sorted(known.index(rows[at]) for at in paper.idle)
        return NoWeb([at for at, _ in kept], idle, [names for _, names in kept])

    def test_by_the_same_points_turned_back(self):
        paper = told(WAYS)
        for points in ([(0, 1), (1, 0)], [(-1, 0), (0, 1)], [(1, 1), (0, 1)]):
            far = Table(changed(WAYS.rows, points))
            self.assertIs(shows_told(far, paper), is_right(far, paper))
            self.assertIs(shows_told(far, Grown(paper.web, paper.times, [combined(p, paper.flows) for p in points])), True)
        both = Table(changed(WAYS.rows, [(-1, 0), (0, -1)]))
        self.assertIs(shows_told(both, paper), True)


class Bent(Case):

    def asks(self, wanted, table, paper):
        self.assertIs(shows_told(table, paper), wanted, (table.rows, paper.parts))

    def test_webs(self):
        asked = {True: 0, False: 0}
        for table in tables_of(268)[:14]:
            paper = told(table)
            if paper:
                for bent in bent_webs(*paper.parts):
                    wanted = is_right(table, bent)
                    asked[wanted] += 1
                    self.asks(wanted, table, bent)
        self.assertGreater(asked[False], 100)

    def test_names(self):
        asked = 0
        for table in tables_of(269):
            paper = told(table)
            if type(paper) is NoWeb:
                kept, idle, names = paper.parts
                for one, other in combinations(range(len(kept)), 2):
                    bent = list(names)
                    bent[one], bent[other] = bent[other], bent[one]
                    asked += 1
                    self.asks(is_right(table, NoWeb(kept, idle, bent)), table, NoWeb(kept, idle, bent))
                self.asks(False, table, NoWeb(kept[:-1], idle, names[:-1]))
                self.asks(False, table, NoWeb(kept[::-1], idle, names[::-1]))
                self.asks(False, table, NoWeb(kept, idle, [name[::-1] for name in names]))
                self.asks(False, table, NoWeb(kept, kept[:1], names))
        self.assertGreater(asked, 100)

    def test_bars(self):
        asked = {True: 0, False: 0}
        for table in STARS + star_tables()[3:9:2]:
            bar = told(table).bar
            for at, by, more in product(range(table.size), range(table.size), (-3, -1, 1, 3)):
                bent = [list(row) for row in bar]
                bent[at][by] += more
                self.asks(at == by and is_right(table, NoLot(bent)), table, NoLot(bent))
                bent[by][at] = bent[at][by]
                wanted = is_right(table, NoLot(bent))
                asked[wanted] += 1
                self.asks(wanted, table, NoLot(bent))
            self.asks(False, table, NoLot([[-number for number in row] for row in bar]))
            self.asks(False, table, NoLot(bar[1:]))
            self.asks(False, table, NoLot([row[1:] for row in bar]))
        self.assertGreater(min(asked.values()), 50)

    def test_bridges_and_ties_in_a_row(self):
        four = Table([[4]])
        self.asks(False, four, Grown(ring(2), (2, 2), ((1, 1),)))
        self.asks(False, four, Grown(Web(1, [(0, 0)]), (1,), ((2,),)))
        self.asks(False, four, Grown(Web(2, [(0, 0), (0, 1)]), (4, 1), ((1, 0),)))
        self.asks(False, WAYS, Grown(Web(3, BUNDLE.ties + ((1, 2),)), TIMES + (1,), [flow + (0,) for flow in FLOWS]))

    def test_truths_for_numbers(self):
        self.asks(False, WAYS, Grown(BUNDLE, (True, 3, 2), FLOWS))
        self.asks(False, WAYS, Grown(BUNDLE, TIMES, ((True, 0, 1), (0, 1, -1))))
        self.asks(False, WAYS, Grown(BUNDLE, TIMES, ((1, False, 1), (0, 1, -1))))
        kept, idle, names = told(FIVE).parts
        self.asks(False, FIVE, NoWeb((False,) + kept[1:], idle, names))
        self.asks(False, FIVE, NoWeb(kept, idle, [(bool(one) if one < 2 else one, other) for one, other in names]))
        # A table of which a bar has ones and noughts alone, beside those below 0.
        bar = [[-1, 0, 0, 0], [0, -1, 0, 0], [0, 0, -1, 0], [0, 0, 0, -1]]
        self.asks(True, NONE, NoLot(bar))
        bar[0][1] = bar[1][0] = False
        self.asks(False, NONE, NoLot(bar))

    def test_any_values_as_parts(self):
        kept, idle, names = told(FIVE).parts
        for value in not_lists() + not_integers():
            self.asks(False, WAYS, Grown(value, TIMES, FLOWS))
            self.asks(False, WAYS, Grown(BUNDLE, value, FLOWS))
            self.asks(False, WAYS, Grown(BUNDLE, TIMES, value))
            self.asks(False, FIVE, NoWeb(value, idle, names))
            self.asks(value in ([], ()) if isinstance(value, (list, tuple)) else False, FIVE, NoWeb(kept, value, names))
            self.asks(False, FIVE, NoWeb(kept, idle, value))
            self.asks(False, NONE, NoLot(value))
            self.asks(False, NONE, NoLot([value] * 4))


def bent_webs(web, times, flows):
    """The parts of a Grown, each bent in some way."""
    found = []
    for one, other in combinations(range(len(times)), 2):
        bent = list(times)
        bent[one], bent[other] = bent[other], bent[one]
        found.append(Grown(web, bent, flows))
    for one, other in combinations(range(len(flows)), 2):
        bent = list(flows)
        bent[one], bent[other] = bent[other], bent[one]
        found.append(Grown(web, times, bent))
        found.append(Grown(web, times, flows[:one] + (flows[other],) + flows[one + 1:]))
    for tie in range(len(times)):
        for more in (-1, 1):
            found.append(Grown(web, times[:tie] + (times[tie] + more,) + times[tie + 1:], flows))
            ties = [list(pair) for pair in web.ties]
            ties[tie][0] = (ties[tie][0] + more) % web.places
            try:
                found.append(Grown(Web(web.places, ties), times, flows))
            except ValueError:
                pass
            found.append(Grown(web, times, [flow[:tie] + (flow[tie] * more + 1,) + flow[tie + 1:] for flow in flows]))
    found.append(Grown(web, times[1:], flows))
    found.append(Grown(web, times, flows[1:]))
    return found


class Values(Case):

    def test_values_that_are_no_such_paper(self):
        some = Lot([(1, 0), (0, 1), (1, -1)], [1, 3, 2])
        right, deny, bar = Grown(BUNDLE, TIMES, FLOWS), told(FIVE), told(NONE)
        for value in not_lists() + [
                LotOf(some), some, BUNDLE, right.parts, deny.parts, bar.parts, [right], Grown, NoWeb, NoLot,
                Paper("grown", *right.parts), Denial("noweb", *deny.parts), Denial("nolot", *bar.parts),
                BentWeb(*right.parts), BentNoWeb(*deny.parts), BentNoLot(*bar.parts), LotOf(right), Denial("grown"),
                Grown(*deny.parts), NoWeb(*right.parts), NoLot(right)]:
            for table in (WAYS, FIVE, NONE):
                self.assertIs(shows_told(table, value), False)
        self.assertIs(shows_told(some.table, LotOf(some)), False)

    def test_papers_of_other_tables(self):
        tables = tables_of(270)[::2] + HAND_TABLES[:6] + some_tables(271, 4)[-4:]
        papers = [told(table) for table in tables]
        for (at, table), (by, paper) in product(enumerate(tables), enumerate(papers)):
            self.assertIs(shows_told(table, paper), at == by or is_right(table, paper))

    def test_a_right_paper_of_a_lot_that_is_a_web_s(self):
        for table in tables_of(272):
            paper = told(table)
            if paper:
                bar = NoLot([[-number for number in row] for row in one_of(table.size)])
                names = NoWeb(list(range(10)), [], told(FIVE).names)
                self.assertEqual([shows_told(table, bar), shows_told(table, names)], [False, False])

    def test_what_is_passed_stays(self):
        for table in tables_of(273)[::4]:
            paper, rows = told(table), table.rows
            parts = paper.parts
            shows_told(table, paper)
            self.assertTrue(table.rows == rows and paper.parts == parts and table == Table(rows))


class Refused(Case):

    def test_what_is_no_table(self):
        for value in not_tables():
            for paper in (None, Grown(BUNDLE, TIMES, FLOWS), told(FIVE), told(NONE)):
                self.refuses(BadTable, {"part": "table"}, shows_told, value, paper)


if __name__ == "__main__":
    unittest.main()
