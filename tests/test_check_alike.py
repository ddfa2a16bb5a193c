"""The checks of papers that tell whether webs are alike, and whether tables are one in some basis."""

import random
import unittest
from itertools import combinations, permutations, product

from flowtells.alike import Alike, Unlike, alike
from flowtells.check_alike import shows_alike, shows_same
from flowtells.errors import BadTable, BadWeb
from flowtells.papers import Denial, Paper
from flowtells.same import Same, Unsame, same
from flowtells.tables import Table
from flowtells.webs import Web
from tests.alike_oracles import TWINS, are_alike, goes_over, others, shuffled
from tests.grown_oracles import shapes
from tests.helpers import GREAT, Case, not_integers, not_lists, not_tables, not_webs
from tests.oracles import HAND_MADE, bundle, determinant, full, random_webs, ring
from tests.table_oracles import basis_of, changed, far_tables, one_of, random_table, some_tables

HUNG, RING = Web(4, [(0, 1), (1, 2), (2, 0), (2, 3)]), ring(3)
STAR = Web(4, [(0, 1), (0, 1), (0, 2), (0, 2), (0, 3), (0, 3)])
CHAIN = Web(4, [(0, 1), (1, 0), (1, 2), (1, 2), (2, 3), (2, 3)])
LOW, HIGH = Table([[2, -1], [-1, 2]]), Table([[2, 1], [1, 2]])


class BentAlike(Alike):
    """A class below Alike: no value of it is an Alike."""


class BentUnlike(Unlike):
    """A class below Unlike: no value of it is an Unlike."""


class BentSame(Same):
    """A class below Same: no value of it is a Same."""


class BentUnsame(Unsame):
    """A class below Unsame: no value of it is an Unsame."""


class Webs(Case):

    def asks(self, wanted, one, other, paper):
        self.assertIs(shows_alike(one, other, paper), wanted, (one.ties, other.ties, paper.parts))

    def test_all_ways_of_small_webs(self):
        asked = {True: 0, False: 0}
        for web in [web for web in HAND_MADE if len(web.ties) <= 5]:
            for other in (web, shuffled(random.Random(341), web)):
                for ties in permutations(range(len(web.ties))):
                    wanted = goes_over(web, other, list(ties))
                    asked[wanted] += 1
                    self.asks(wanted, web, other, Alike(ties))
        self.assertGreater(min(asked.values()), 50)

    def test_all_ways_with_bridges(self):
        for ends in product((-1, 0, 1, 2), repeat=4):
            self.asks(goes_over(HUNG, RING, list(ends)), HUNG, RING, Alike(ends))
        for ends in product((-1, 0, 1, 2, 3), repeat=3):
            self.asks(goes_over(RING, HUNG, list(ends)), RING, HUNG, Alike(ends))

    def test_right_papers_told_in_another_way(self):
        source = random.Random(342)
        for web in shapes(343, 10):
            other = shuffled(source, web)
            ties = alike(web, other).ties
            self.asks(True, web, other, Alike(list(ties)))
            # Ties in a row may change places, ties beside one another, too.
            for one, by in combinations(range(len(ties)), 2):
                bent = list(ties)
                bent[one], bent[by] = bent[by], bent[one]
                if len(ties) < 8:
                    self.asks(goes_over(web, other, bent), web, other, Alike(bent))
        for order in permutations(range(6)):
            wanted = all({order[at], order[at + 1]} in ({0, 1}, {2, 3}, {4, 5}) for at in (0, 2, 4))
            self.asks(wanted, STAR, CHAIN, Alike(order))

    def test_papers_bent(self):
        source = random.Random(344)
        for web in [web for web in shapes(345, 10) if len(web.ties) < 8]:
            other = shuffled(source, web)
            ties = alike(web, other).ties
            for at in range(len(ties)):
                for end in range(-2, len(ties) + 1):
                    bent = ties[:at] + (end,) + ties[at + 1:]
                    self.asks(goes_over(web, other, bent), web, other, Alike(bent))
                for value in not_integers() + [GREAT, -GREAT, len(ties), -2, ties[at] - len(ties)]:
                    self.asks(False, web, other, Alike(ties[:at] + (value,) + ties[at + 1:]))
            self.asks(False, web, other, Alike(ties[1:]))
            self.asks(False, web, other, Alike(ties + (-1,)))
            self.asks(False, web, other, Alike(ties + (len(ties),)))

    def test_truths_for_numbers(self):
        self.asks(True, RING, RING, Alike([0, 1, 2]))
        for ties in ([False, 1, 2], [0, True, 2], [False, True, 2]):
            self.asks(False, RING, RING, Alike(ties))
        self.asks(False, ring(1), ring(1), Alike([False]))

    def test_unlike(self):
        asked = {True: 0, False: 0}
        webs = [web for web in HAND_MADE + random_webs(346, 25, 4, 6) if len(others(web)) <= 5]
        for one, other in product(webs, webs):
            wanted = not are_alike(one, other)
            asked[wanted] += 1
            self.asks(wanted, one, other, Unlike())
        self.assertGreater(min(asked.values()), 50)

    def test_no_list(self):
        for value in not_lists() + [RING, [[0, 1, 2]], [[0], [1], [2]], [], [0, 1]]:
            self.asks(False, RING, RING, Alike(value))
            self.asks(False, RING, full(4), Alike(value))
        self.asks(True, Web(1, []), Web(2, [(0, 1)]), Alike([]))
        self.asks(True, Web(2, [(0, 1)]), Web(1, []), Alike([-1]))
        self.asks(False, Web(2, [(0, 1)]), Web(1, []), Alike([]))

    def test_other_values(self):
        right = Alike([0, 1, 2])
        for value in not_lists() + [
                RING, right.parts, [right], Alike, Unlike, Paper("alike", [0, 1, 2]), Denial("unlike"), Paper("unlike"),
                BentAlike([0, 1, 2]), BentUnlike(), Same([0, 1, 2]), Unsame(), [0, 1, 2], (0, 1, 2), "unlike"]:
            self.assertIs(shows_alike(RING, RING, value), False)
            self.assertIs(shows_alike(RING, full(4), value), False)
        self.assertIs(shows_alike(value=right, other=RING, one=RING), True)
        self.assertIs(shows_alike(RING, full(4), Unlike()), True)

    def test_what_is_no_web(self):
        for value in not_webs():
            for paper in (None, Unlike(), Alike([0])):
                self.refuses(BadWeb, {"part": "one"}, shows_alike, value, RING, paper)
                self.refuses(BadWeb, {"part": "other"}, shows_alike, RING, value, paper)
                self.refuses(BadWeb, {"part": "one"}, shows_alike, value, value, paper)


class Tables(Case):

    def asks(self, wanted, one, other, paper):
        self.assertIs(shows_same(one, other, paper), wanted, (one.rows, other.rows, paper.parts))

    def test_any_points(self):
        self.asks(True, LOW, HIGH, Same([[1, 0], [0, -1]]))
        self.asks(True, LOW, HIGH, Same(((1, 0), (1, 1))))
        for table, points, far in far_tables(351, some_tables(352, 10), 9):
            self.asks(True, table, far, Same(points))
            self.asks(True, table, far, Same([tuple(-number for number in point) for point in points]))
            self.asks(True, table, far, Same(same(table, far).points))
            self.asks(True, table, table, Same(one_of(table.size)))

    def test_all_points_of_small_tables(self):
        asked = {True: 0, False: 0}
        for one, other in product([LOW, HIGH, Table(one_of(2)), Table([[2, 0], [0, 2]]), Table([[2, 1], [1, 1]])], repeat=2):
            for numbers in product((-2, -1, 0, 1, 2), repeat=4):
                points = (numbers[:2], numbers[2:])
                wanted = abs(determinant(points)) == 1 and changed(one.rows, points) == other.rows
                asked[wanted] += 1
                self.asks(wanted, one, other, Same(points))
        self.assertGreater(min(asked.values()), 30)

    def test_points_that_are_no_basis(self):
        self.asks(False, LOW, HIGH, Same([[1, 0], [2, 0]]))
        self.asks(False, Table([[1]]), Table([[4]]), Same([[2]]))
        self.asks(False, Table(one_of(2)), Table([[2, 0], [0, 2]]), Same([[1, 1], [1, -1]]))
        self.asks(False, Table(one_of(2)), Table([[4, 0], [0, 1]]), Same([[2, 0], [0, 1]]))

    def test_papers_bent(self):
        source = random.Random(353)
        for table in some_tables(354, 6)[::3]:
            points = basis_of(source, table.size, 2)
            far = Table(changed(table.rows, points))
            for at, by in product(range(table.size), repeat=2):
                for more in (-1, 1, GREAT):
                    bent = [list(point) for point in points]
                    bent[at][by] += more
                    wanted = abs(determinant(bent)) == 1 and changed(table.rows, bent) == far.rows
                    self.asks(wanted, table, far, Same(bent))
                for value in not_integers():
                    bent = [list(point) for point in points]
                    bent[at][by] = value
                    self.asks(False, table, far, Same(bent))
            for at in range(table.size):
                for value in not_lists() + [[], [1] * (table.size + 1)]:
                    self.asks(False, table, far, Same(points[:at] + [value] + points[at + 1:]))
            self.asks(False, table, far, Same(points[1:]))
            self.asks(False, table, far, Same(points + [points[0]]))
            self.asks(False, table, far, Same([point[1:] for point in points]))

    def test_truths_for_numbers(self):
        self.asks(True, LOW, LOW, Same([[1, 0], [0, 1]]))
        for points in ([[True, 0], [0, 1]], [[1, False], [0, 1]], [[True, False], [False, True]]):
            self.asks(False, LOW, LOW, Same(points))

    def test_unsame(self):
        source = random.Random(355)
        self.asks(False, LOW, HIGH, Unsame())
        self.asks(True, LOW, Table([[3]]), Unsame())
        self.asks(True, LOW, Table([[2, 0], [0, 2]]), Unsame())
        for first, second in TWINS:
            self.asks(True, Table(first), Table(second), Unsame())
            self.asks(False, Table(first), Table(changed(first, basis_of(source, 5, 9))), Unsame())
        tables = [random_table(source, size, 2) for size in (1, 1, 2, 2, 3, 4, 5)]
        for one, other in product(tables, tables):
            self.asks(not same(one, other), one, other, Unsame())

    def test_tables_of_unlike_sizes(self):
        for one, other in product(range(1, 6), repeat=2):
            self.asks(one == other, Table(one_of(one)), Table(one_of(other)), Same(one_of(one)))
            self.asks(one == other, Table(one_of(one)), Table(one_of(other)), Same(one_of(other)))
            self.asks(one != other, Table(one_of(one)), Table(one_of(other)), Unsame())

    def test_no_list(self):
        for value in not_lists() + [LOW, [], [[]], [[[1, 0], [0, 1]]], [1, 0, 0, 1]]:
            self.asks(False, LOW, LOW, Same(value))

    def test_other_values(self):
        points = [[1, 0], [0, 1]]
        for value in not_lists() + [
                LOW, points, Same(points).parts, [Same(points)], Same, Unsame, Paper("same", points), Denial("unsame"),
                BentSame(points), BentUnsame(), Alike(points), Unlike(), Denial("same", points)]:
            self.assertIs(shows_same(LOW, LOW, value), False)
            self.assertIs(shows_same(LOW, Table([[3]]), value), False)
        self.assertIs(shows_same(value=Same(points), other=LOW, one=LOW), True)

    def test_what_is_no_table(self):
        for value in not_tables():
            for paper in (None, Unsame(), Same([[1]])):
                self.refuses(BadTable, {"part": "one"}, shows_same, value, LOW, paper)
                self.refuses(BadTable, {"part": "other"}, shows_same, LOW, value, paper)
                self.refuses(BadTable, {"part": "one"}, shows_same, value, value, paper)


class Papers(Case):

    def test_bundles_and_rings(self):
        # In a bundle, in a ring and of loops all ties may change places.
        for web in (bundle(4), ring(4), Web(1, [(0, 0)] * 4)):
            for order in permutations(range(4)):
                self.assertIs(shows_alike(web, web, Alike(order)), True)


if __name__ == "__main__":
    unittest.main()
