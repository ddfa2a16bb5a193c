"""Some ties turned about two places."""

import random
import unittest

from flowtells.errors import BadNumber, BadWeb, Misfit, NoPlace, NoTie, Twice
from flowtells.pieces import in_a_row, pieces
from flowtells.turns import turned
from flowtells.webs import Web, bonds, bridges, rounds
from tests.helpers import GREAT, Case, Fussy, not_integers, not_lists, not_webs
from tests.oracles import random_webs, ring

WAYS = Web(4, [(0, 1), (0, 2), (2, 1), (0, 3), (3, 1)])
BOW = Web(5, [(0, 1), (1, 2), (2, 0), (2, 3), (3, 4), (4, 3), (3, 3)])


def can_turn(web, one, other, ties):
    """Whether no third place is touched both by one of these ties and by one of the others."""
    inner = {end for tie in ties for end in web.ties[tie]}
    outer = {end for tie, pair in enumerate(web.ties) if tie not in ties for end in pair}
    return not (inner & outer) - {one, other}


def ends_turned(web, one, other, ties):
    """The ties when each end of these at the one place goes to the other one, and the other way."""
    found = []
    for tie, pair in enumerate(web.ties):
        if tie in ties:
            pair = tuple(other if end == one else one if end == other else end for end in pair)
        found.append(pair)
    return tuple(found)


class Turned(Case):

    def test_against_its_words(self):
        source, counts = random.Random(5), {True: 0, False: 0}
        for web in random_webs(6, 150, 5, 7):
            if web.places == 1:
                continue
            for _ in range(6):
                one, other = source.sample(range(web.places), 2)
                ties = source.sample(range(len(web.ties)), source.randint(0, len(web.ties)))
                counts[can_turn(web, one, other, ties)] += 1
                if not can_turn(web, one, other, ties):
                    self.refuses(Misfit, {"part": "part"}, turned, web, one, other, ties)
                    continue
                found = turned(web, one, other, ties)
                self.assertIs(type(found), Web)
                self.same_kind((found.places, found.ties), (web.places, ends_turned(web, one, other, ties)))
                for call in (rounds, bonds, bridges, pieces, in_a_row):
                    self.assertEqual(call(found), call(web))
                self.assertEqual(turned(found, one, other, ties), web)
                self.assertEqual(turned(web, other, one, ties[::-1]), found)
        self.assertGreater(min(counts.values()), 100)

    def test_what_it_does_to_each_end(self):
        self.same_kind(turned(WAYS, 0, 1, [1, 2]).ties, ((0, 1), (1, 2), (2, 0), (0, 3), (3, 1)))
        self.same_kind(turned(WAYS, 0, 1, [0]).ties, ((1, 0), (0, 2), (2, 1), (0, 3), (3, 1)))
        self.same_kind(turned(WAYS, 1, 0, (4, 0, 3)).ties, ((1, 0), (0, 2), (2, 1), (1, 3), (3, 0)))

    def test_loops_among_the_ties(self):
        self.same_kind(turned(BOW, 3, 0, [6]).ties, BOW.ties[:6] + ((0, 0),))
        self.same_kind(turned(BOW, 3, 4, [6]).ties, BOW.ties[:6] + ((4, 4),))
        self.same_kind(turned(BOW, 4, 3, [4, 6]).ties, BOW.ties[:4] + ((4, 3), (4, 3), (4, 4)))
        web = Web(3, [(0, 1), (1, 2), (2, 2)])
        self.same_kind(turned(web, 0, 1, [2, 1]).ties, ((0, 1), (0, 2), (2, 2)))

    def test_no_ties(self):
        for web in (WAYS, BOW, ring(4)):
            for none in ([], ()):
                self.assertEqual(turned(web, 0, 2, none), web)

    def test_all_ties(self):
        self.same_kind(turned(WAYS, 1, 3, range_list(5)).ties, ((0, 3), (0, 2), (2, 3), (0, 1), (1, 3)))
        self.same_kind(turned(Web(2, [(0, 1), (0, 0)]), 0, 1, [1, 0]).ties, ((1, 0), (1, 1)))

    def test_turned_twice(self):
        for one, other, ties in ((3, 0, [4, 5, 6]), (3, 4, [6, 5, 4]), (2, 3, [3]), (0, 1, [0])):
            again = turned(turned(BOW, one, other, ties), one, other, ties)
            self.same_kind((again.places, again.ties), (BOW.places, BOW.ties))

    def test_hung_by_another_place(self):
        web = Web(3, [(0, 1), (1, 2)])
        self.same_kind(turned(web, 1, 2, [1]).ties, ((0, 1), (2, 1)))
        self.same_kind(turned(web, 1, 0, [1]).ties, ((0, 1), (0, 2)))

    def test_by_name(self):
        self.assertEqual(turned(ties=[1, 2], other=1, one=0, web=WAYS), turned(WAYS, 0, 1, [1, 2]))

    def test_what_was_passed_stays(self):
        ties, text = [2, 1], str(WAYS)
        found = turned(WAYS, 0, 1, ties)
        ties.append(0)
        self.same_kind(ties, [2, 1, 0])
        self.assertEqual(str(WAYS), text)
        self.same_kind(found.ties, ((0, 1), (1, 2), (2, 0), (0, 3), (3, 1)))

    def test_what_a_refused_call_was_passed_stays(self):
        ties, text = [1], str(WAYS)
        self.refuses(Misfit, {"part": "part"}, turned, WAYS, 0, 1, ties)
        self.same_kind(ties, [1])
        self.assertEqual(str(WAYS), text)


def range_list(many):
    """The list of all ties of so many."""
    return list(range(many))


class Refused(Case):

    def test_what_is_no_web(self):
        for value in not_webs():
            self.refuses(BadWeb, {"part": "web"}, turned, value, 0, 1, [])

    def test_what_is_no_place(self):
        for value in not_integers() + [-1, 4, 13, GREAT, -GREAT]:
            self.refuses(NoPlace, {"value": value}, turned, WAYS, value, 1, [])
            self.refuses(NoPlace, {"value": value}, turned, WAYS, 0, value, [])
            self.refuses(NoPlace, {"value": value}, turned, WAYS, value, value, [])

    def test_an_error_keeps_the_value_itself(self):
        for value in ([1, [2]], Fussy(), {"a": 1}):
            for call in (lambda: turned(WAYS, value, 1, []), lambda: turned(WAYS, 1, value, []),
                         lambda: turned(WAYS, 0, 1, [value])):
                with self.assertRaises((NoPlace, NoTie)) as caught:
                    call()
                self.assertIs(caught.exception.value, value)

    def test_one_place_twice(self):
        for place in range(4):
            self.refuses(Twice, {"value": place}, turned, WAYS, place, place, [])
        self.refuses(Twice, {"value": 0}, turned, Web(1, []), 0, 0, [])

    def test_what_is_no_list_of_ties(self):
        for value in not_lists():
            self.refuses(BadNumber, {"part": "ties"}, turned, WAYS, 0, 1, value)

    def test_what_is_no_tie(self):
        for value in not_integers() + [-1, 5, 12, GREAT, -GREAT]:
            for at in range(3):
                ties = [1, 2]
                ties.insert(at, value)
                self.refuses(NoTie, {"value": value}, turned, WAYS, 0, 1, ties)
                self.refuses(NoTie, {"value": value}, turned, WAYS, 0, 1, tuple(ties))

    def test_the_first_that_is_no_tie(self):
        self.refuses(NoTie, {"value": 7}, turned, WAYS, 0, 1, [1, 1, 7, 9])
        self.refuses(NoTie, {"value": 9}, turned, WAYS, 0, 1, [9, 7, None])
        self.refuses(NoTie, {"value": None}, turned, WAYS, 0, 1, [0, None, 7])

    def test_a_tie_twice(self):
        self.refuses(Twice, {"value": 2}, turned, WAYS, 0, 1, [1, 2, 2, 1])
        self.refuses(Twice, {"value": 1}, turned, WAYS, 0, 1, (1, 2, 1, 2))
        self.refuses(Twice, {"value": 0}, turned, WAYS, 0, 1, [0, 0])

    def test_ties_that_cannot_be_turned(self):
        for one, other, ties in ((0, 1, [1]), (0, 1, [0, 2]), (0, 1, [1, 3]), (0, 2, [0]), (2, 3, [1, 2]),
                                 (0, 1, [1, 2, 3])):
            self.refuses(Misfit, {"part": "part"}, turned, WAYS, one, other, ties)
        self.refuses(Misfit, {"part": "part"}, turned, BOW, 0, 4, [6])

    def test_the_order_where_several_hold(self):
        self.refuses(BadWeb, {"part": "web"}, turned, None, None, None, None)
        self.refuses(NoPlace, {"value": 9}, turned, WAYS, 9, 8, None)
        self.refuses(NoPlace, {"value": 8}, turned, WAYS, 0, 8, None)
        self.refuses(Twice, {"value": 0}, turned, WAYS, 0, 0, None)
        self.refuses(BadNumber, {"part": "ties"}, turned, WAYS, 0, 1, None)
        self.refuses(NoTie, {"value": 5}, turned, WAYS, 0, 1, [1, 1, 5])
        self.refuses(Twice, {"value": 1}, turned, WAYS, 0, 1, [1, 1])


if __name__ == "__main__":
    unittest.main()
