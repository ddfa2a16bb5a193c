"""The check of papers that tell K5 or K33 in a lot."""

import random
import unittest
from itertools import combinations, permutations, product

from flowtells.bars import LotOf, NoLot
from flowtells.check_unwebbed import shows_unwebbed
from flowtells.errors import BadLot
from flowtells.lots import Lot
from flowtells.papers import Denial, Paper
from flowtells.unwebbed import NoWeb, unwebbed
from tests.helpers import GREAT, Case, not_integers, not_lists, not_lots
from tests.lot_oracles import FULL, KFIVE, KSIX, NEITHER, random_lots, seen_from, shows_it
from tests.table_oracles import basis_of

FIVES, SIXES = list(combinations(range(5), 2)), list(product(range(3), range(3, 6)))
LOOP = [[0, 0, 0, 0, 1], [0, 1, -1, 0, 0], [0, 1, -1, 1, 0], [0, 1, 0, 0, 0], [1, 0, 0, 0, 0], [1, 0, 0, 1, 0],
        [1, 0, 1, 0, 0], [1, 1, -1, 1, 0], [1, 1, 0, 0, 0], [1, 1, 0, 1, 0]]


class Bent(NoWeb):
    """A class below NoWeb: no value of it is a NoWeb."""


def all_once(rows):
    """The lot of these rows, each once."""
    return Lot(rows, [1] * len(rows))


def paper_by(some, named, idle=()):
    """A paper of rows with their names, and of idle rows, of a lot."""
    told = sorted((some.rows.index(row), name) for row, name in named)
    return NoWeb([at for at, _ in told], sorted(some.rows.index(row) for row in idle), [name for _, name in told])


def renamed(names, order):
    """The names when each is called by what stands at its index, the lesser first."""
    return [tuple(sorted((order[one], order[other]))) for one, other in names]


FIVE, SIX = all_once(KFIVE), all_once(KSIX)
FIVE_PAPER, SIX_PAPER = paper_by(FIVE, zip(KFIVE, FIVES)), paper_by(SIX, zip(KSIX, SIXES))
WIDE = all_once([(0,) * 4 + (1,)] + [row + (0,) for row in KFIVE])


class Right(Case):

    def asks(self, some, paper):
        self.assertIs(shows_unwebbed(some, paper), True, (some.rows, paper.parts))

    def test_by_hand(self):
        self.asks(FIVE, FIVE_PAPER)
        self.asks(SIX, SIX_PAPER)
        self.asks(Lot(KFIVE, [GREAT] * 10), NoWeb(list(range(10)), (), list(FIVE_PAPER.names)))
        self.asks(WIDE, paper_by(WIDE, [(row + (0,), name) for row, name in zip(KFIVE, FIVES)], [(0, 0, 0, 0, 1)]))

    def test_names_told_in_another_way(self):
        for order in permutations(range(5)):
            self.asks(FIVE, NoWeb(FIVE_PAPER.kept, (), renamed(FIVE_PAPER.names, order)))
        for one, other in product(permutations(range(3)), permutations(range(3, 6))):
            self.asks(SIX, NoWeb(SIX_PAPER.kept, (), renamed(SIX_PAPER.names, one + other)))
            self.asks(SIX, NoWeb(SIX_PAPER.kept, (), renamed(SIX_PAPER.names, other + one)))

    def test_any_five_of_six_places(self):
        some = all_once(FULL)
        pairs = list(combinations(range(6), 2))
        for drawn in range(6):
            for by in range(6):
                if by != drawn:
                    others = [place for place in range(6) if place != drawn]
                    named = [(FULL[at], (others.index(one), others.index(other)))
                             for at, (one, other) in enumerate(pairs) if drawn not in (one, other)]
                    idle = FULL[pairs.index(tuple(sorted((drawn, by))))]
                    self.asks(some, paper_by(some, named, [idle]))

    def test_any_two_threes_of_six_places(self):
        some, pairs = all_once(FULL), list(combinations(range(6), 2))
        for first in combinations(range(6), 3):
            order = list(first) + [place for place in range(6) if place not in first]
            named = [(FULL[pairs.index(tuple(sorted((order[one], order[other]))))], (one, other)) for one, other in SIXES]
            self.asks(some, paper_by(some, named))

    def test_far_bases(self):
        source = random.Random(181)
        for rows, names in ((KFIVE, FIVES), (KSIX, SIXES)):
            for most in (0, 2, 9, 18):
                far = seen_from(rows, basis_of(source, len(rows[0]), most))
                some = Lot(far, [source.randint(1, 9) for _ in far])
                self.asks(some, paper_by(some, zip(far, names)))

    def test_lists_for_tuples(self):
        names = [list(name) for name in FIVE_PAPER.names]
        self.asks(FIVE, NoWeb(list(range(10)), [], names))
        self.asks(FIVE, NoWeb(tuple(range(10)), (), tuple(map(tuple, names))))

    def test_by_name(self):
        self.assertIs(shows_unwebbed(value=FIVE_PAPER, lot=FIVE), True)


class Conditions(Case):

    def asks(self, wanted, some, paper):
        self.assertIs(shows_unwebbed(some, paper), wanted, (some.rows, paper.parts))

    def test_no_heights(self):
        # The points are right and no point is lost, but the names are told of other rows.
        for lot_of_rows, paper in ((FIVE, FIVE_PAPER), (SIX, SIX_PAPER)):
            for one, other in combinations(range(len(paper.kept)), 2):
                names = list(paper.names)
                names[one], names[other] = names[other], names[one]
                self.asks(False, lot_of_rows, NoWeb(paper.kept, (), names))
        self.asks(False, FIVE, NoWeb(FIVE_PAPER.kept, (), FIVES))

    def test_heights_that_do_not_come_in_all_ways(self):
        # At 0, 0, 0, 0, 1 all nine rows are 0, though they have heights and five points make up all.
        names = [(1, 3), (1, 5), (1, 4), (0, 3), (0, 5), (0, 4), (2, 4), (2, 5), (2, 3)]
        self.asks(False, all_once(LOOP), NoWeb(range(1, 10), (), names))
        self.asks(False, all_once(LOOP), NoWeb(list(range(1, 10)), (), names))
        # With the loop idle no point is lost, but four points make up all.
        self.asks(False, all_once(LOOP), NoWeb(list(range(1, 10)), [0], names))

    def test_points_that_too_few_make_up(self):
        # Two ties drawn, places 0, 1 and 5 come to be one: heights are there, and no point is lost.
        some, pairs = all_once(FULL), list(combinations(range(6), 2))
        named = [(row, pair) for row, pair in zip(FULL, pairs) if 5 not in pair]
        idle = [row for row, pair in zip(FULL, pairs) if pair in ((0, 5), (1, 5))]
        self.asks(True, some, paper_by(some, named, idle[:1]))
        self.asks(True, some, paper_by(some, named, idle[1:]))
        self.asks(False, some, paper_by(some, named, idle))
        self.asks(False, some, paper_by(some, named))
        named = [(row, pair) for row, pair in zip(FULL, pairs) if pair in SIXES]
        self.asks(True, some, paper_by(some, named))
        for row, pair in zip(FULL, pairs):
            if pair not in SIXES:
                self.asks(False, some, paper_by(some, named, [row]))

    def test_points_that_too_many_make_up(self):
        named = [(row + (0,), name) for row, name in zip(KFIVE, FIVES)]
        self.asks(True, WIDE, paper_by(WIDE, named, [(0, 0, 0, 0, 1)]))
        self.asks(False, WIDE, paper_by(WIDE, named))

    def test_against_the_words_of_the_document(self):
        source, asked = random.Random(182), {True: 0, False: 0}
        for some in [FIVE, SIX, WIDE, all_once(NEITHER), all_once(FULL)] + random_lots(183, 20):
            paper = unwebbed(some)
            if paper is not None:
                for _ in range(8):
                    kept, idle, names = bent(source, some, paper)
                    wanted = shows_it(some, kept, idle, names)
                    asked[wanted] += 1
                    self.asks(wanted, some, NoWeb(kept, idle, names))
        self.assertGreater(min(asked.values()), 10)


def bent(source, some, paper):
    """The parts of a paper, bent in one way, in the orders that are told."""
    named, idle = dict(zip(paper.kept, paper.names)), list(paper.idle)
    free = [at for at in range(len(some.rows)) if at not in named and at not in idle]
    way = source.choice(("swap", "rename", "other", "idle"))
    if way == "swap":
        one, other = source.sample(sorted(named), 2)
        named[one], named[other] = named[other], named[one]
    elif way == "rename":
        order = source.sample(range(5), 5)
        if len(named) == 9:
            order = source.sample(range(3), 3) + source.sample(range(3, 6), 3)
        named = dict(zip(named, renamed(named.values(), order)))
    elif way == "other" and free:
        named[source.choice(free)] = named.pop(source.choice(sorted(named)))
    elif free:
        idle = sorted(source.choice((idle[1:], idle)) + [source.choice(free)])
    kept = sorted(named)
    return kept, idle, [named[at] for at in kept]


class Parts(Case):

    def asks(self, some, *parts):
        self.assertIs(shows_unwebbed(some, NoWeb(*parts)), False, parts)

    def test_what_is_no_list(self):
        for paper, some in ((FIVE_PAPER, FIVE), (SIX_PAPER, SIX)):
            for value in not_lists() + [some]:
                self.asks(some, value, paper.idle, paper.names)
                self.asks(some, paper.kept, value, paper.names)
                self.asks(some, paper.kept, paper.idle, value)

    def test_wrong_numbers_at_any_place(self):
        for at in range(10):
            for value in not_integers() + [-1, 10, 15, -10, GREAT, -GREAT]:
                kept = list(range(10))
                kept[at] = value
                self.asks(FIVE, kept, (), FIVE_PAPER.names)
        self.asks(FIVE, [False, True] + list(range(2, 10)), (), FIVE_PAPER.names)
        self.asks(FIVE, range(10), [], FIVE_PAPER.names)
        self.asks(WIDE, list(range(1, 11)), [], FIVE_PAPER.names)
        for value in not_integers() + [-1, -11, 11, GREAT]:
            self.asks(WIDE, list(range(1, 11)), [value], FIVE_PAPER.names)
        self.assertIs(shows_unwebbed(WIDE, NoWeb(list(range(1, 11)), [0], unwebbed(WIDE).names)), True)

    def test_nothing_is_counted_from_the_end(self):
        names = FIVE_PAPER.names
        self.asks(FIVE, [-1] + list(range(9)), (), names[9:] + names[:9])
        some = all_once([(1,) + (0,) * 4] + [(0,) + row for row in KFIVE])
        right = unwebbed(some)
        self.assertEqual((right.kept, right.idle), (tuple(range(10)), (10,)))
        self.assertIs(shows_unwebbed(some, right), True)
        self.asks(some, right.kept, (-1,), right.names)

    def test_orders_and_numbers_twice(self):
        kept, names = list(FIVE_PAPER.kept), list(FIVE_PAPER.names)
        for one, other in combinations(range(10), 2):
            order = list(range(10))
            order[one], order[other] = order[other], order[one]
            self.asks(FIVE, [kept[at] for at in order], (), [names[at] for at in order])
        for at in range(1, 10):
            self.asks(FIVE, kept[:at] + [kept[at - 1]] + kept[at + 1:], (), names)
        wide = all_once(FULL)
        right = unwebbed(wide)
        for idle in ([right.idle[0]] * 2, list(right.idle) + [right.kept[0]], [right.kept[9]], [99]):
            self.asks(wide, right.kept, idle, right.names)

    def test_idle_rows_that_are_kept(self):
        for at in range(10):
            self.asks(FIVE, FIVE_PAPER.kept, [at], FIVE_PAPER.names)
        for at in range(9):
            self.asks(SIX, SIX_PAPER.kept, [at], SIX_PAPER.names)

    def test_too_few_and_too_many(self):
        for at in range(10):
            kept = [number for number in range(10) if number != at]
            names = [name for number, name in enumerate(FIVE_PAPER.names) if number != at]
            self.asks(FIVE, kept, (), names)
            self.asks(FIVE, kept, (), FIVE_PAPER.names)
            self.asks(FIVE, FIVE_PAPER.kept, (), names)
            self.asks(FIVE, kept, [at], names)
        self.asks(FIVE, FIVE_PAPER.kept, (), FIVE_PAPER.names + ((0, 1),))
        self.asks(FIVE, [], [], [])
        self.asks(FIVE, [], list(range(10)), [])
        self.asks(Lot([[1]], [1]), [0], [], [(0, 1)])
        self.asks(Lot([[1]], [1]), [], [], [])

    def test_names_that_are_no_pairs(self):
        for at in range(10):
            name = FIVE_PAPER.names[at]
            for value in not_lists() + [[], [name], name[::-1], name + (0,), name[:1], [name[0], name[0]], (0, 5), (-1, 0),
                                        (0, GREAT), [[0], [1]], [str(name[0]), name[1]]]:
                names = list(FIVE_PAPER.names)
                names[at] = value
                self.asks(FIVE, FIVE_PAPER.kept, (), names)
            for by, value in product(range(2), not_integers()):
                names = [list(some) for some in FIVE_PAPER.names]
                names[at][by] = value
                self.asks(FIVE, FIVE_PAPER.kept, (), names)
        for at in range(9):
            names = list(SIX_PAPER.names)
            names[at] = names[at][::-1]
            self.asks(SIX, SIX_PAPER.kept, (), names)

    def test_truths_for_numbers(self):
        for paper, some in ((FIVE_PAPER, FIVE), (SIX_PAPER, SIX)):
            for at, by in product(range(len(paper.names)), range(2)):
                names = [list(name) for name in paper.names]
                if names[at][by] < 2:
                    names[at][by] = bool(names[at][by])
                    self.asks(some, paper.kept, paper.idle, names)
            self.asks(some, (False,) + paper.kept[1:], paper.idle, paper.names)

    def test_names_of_the_other_kind(self):
        self.asks(FIVE, FIVE_PAPER.kept[:9], (), SIXES)
        self.asks(SIX, SIX_PAPER.kept, (), FIVES[:9])
        self.asks(SIX, SIX_PAPER.kept, (), FIVES)
        for names in (FIVES[:9] + [(0, 1)], [(one, other + 1) for one, other in FIVES]):
            self.asks(FIVE, FIVE_PAPER.kept, (), names)


class Values(Case):

    def test_values_that_are_no_no_web(self):
        parts = FIVE_PAPER.parts
        for value in not_lots() + [
                FIVE, parts, list(parts), Denial("noweb", *parts), Paper("noweb", *parts), Bent(*parts), NoWeb,
                [FIVE_PAPER], LotOf(FIVE), NoLot(parts), NoWeb(FIVE_PAPER, FIVE_PAPER, FIVE_PAPER)]:
            self.assertIs(shows_unwebbed(FIVE, value), False)

    def test_papers_of_another_lot(self):
        lots = [FIVE, SIX, WIDE, all_once(FULL), all_once(NEITHER), all_once(LOOP), Lot([[1]], [1])]
        lots += random_lots(184, 10)
        papers = [paper for paper in map(unwebbed, lots) if paper is not None]
        for some, paper in product(lots, papers):
            fits = max(paper.kept + paper.idle) < len(some.rows)
            wanted = fits and shows_it(some, paper.kept, paper.idle, paper.names)
            self.assertIs(shows_unwebbed(some, paper), wanted)


class Refused(Case):

    def test_what_is_no_lot(self):
        for value in not_lots():
            for paper in (None, FIVE_PAPER):
                self.refuses(BadLot, {"part": "lot"}, shows_unwebbed, value, paper)


if __name__ == "__main__":
    unittest.main()
