"""The first tree, and how many trees there are."""

import unittest

from flowtells.errors import BadWeb
from flowtells.trees import first_tree, many_trees
from flowtells.webs import Web
from tests.helpers import Case, not_webs
from tests.oracles import HAND_MADE, LARGE, all_trees, bundle, full, random_webs, ring


class AgainstAll(Case):

    def test_webs(self):
        for web in HAND_MADE + LARGE + random_webs(13, 60, 13, 12):
            with self.subTest(web=str(web)):
                trees = all_trees(web)
                self.same_kind(many_trees(web), len(trees))
                # Who takes each tie that can be taken comes to the tree that is the first one in order.
                self.same_kind(first_tree(web), trees[0])

    def test_by_name(self):
        self.assertEqual([first_tree(web=ring(3)), many_trees(web=ring(3))], [(0, 1), 3])


class OfOneKind(Case):

    def asks(self, web, tree, many):
        self.same_kind([first_tree(web), many_trees(web)], [tree, many])

    def test_one_place(self):
        self.asks(Web(1, []), (), 1)
        self.asks(Web(1, [(0, 0)]), (), 1)
        self.asks(Web(1, [(0, 0)] * 12), (), 1)

    def test_loops_are_left_out(self):
        self.asks(Web(2, [(0, 0), (1, 1), (1, 0), (0, 0)]), (2,), 1)
        self.asks(Web(3, [(2, 2), (0, 1), (1, 1), (1, 0), (2, 0)]), (1, 4), 2)

    def test_ties_beside_one_another(self):
        self.asks(Web(3, [(0, 1), (1, 0), (0, 1), (1, 2), (2, 1)]), (0, 3), 6)
        for many in (1, 2, 12):
            self.asks(bundle(many), (0,), many)

    def test_rings(self):
        for many in (2, 3, 12):
            self.asks(ring(many), tuple(range(many - 1)), many)

    def test_full_webs(self):
        self.asks(full(4), (0, 1, 2), 16)
        self.asks(full(5), (0, 1, 2, 3), 125)

    def test_all_ties_are_bridges(self):
        self.asks(LARGE[0], tuple(range(12)), 1)
        self.asks(Web(3, [(2, 1), (1, 0)]), (0, 1), 1)

    def test_the_order_of_ties_tells_which_tree(self):
        self.asks(Web(4, [(1, 2), (2, 3), (1, 3), (3, 1), (0, 3)]), (0, 1, 4), 5)
        self.asks(Web(4, [(0, 1), (2, 3), (1, 0), (3, 2), (1, 2)]), (0, 1, 4), 4)

    def test_the_web_stays(self):
        web = full(4)
        text = str(web)
        self.assertEqual([many_trees(web), first_tree(web)], [many_trees(web), first_tree(web)])
        self.assertEqual(str(web), text)


class Refused(Case):

    def test_what_is_no_web(self):
        for value in not_webs():
            self.refuses(BadWeb, {"part": "web"}, first_tree, value)
            self.refuses(BadWeb, {"part": "web"}, many_trees, value)


if __name__ == "__main__":
    unittest.main()
