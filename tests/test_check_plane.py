"""The check of papers that tell whether a web lies in the plane: right ones told in other ways, and bent ones."""

import random
import unittest
from itertools import combinations, permutations, product

from flowtells.check_plane import shows_plane
from flowtells.errors import BadWeb, TooMany
from flowtells.papers import Denial, Paper
from flowtells.plane import NotPlane, Plane, plane
from flowtells.webs import Web
from tests.alike_oracles import shuffled
from tests.grown_oracles import THREES, prism, wheel
from tests.helpers import GREAT, Case, LikeWeb, not_integers, not_lists, not_webs
from tests.oracles import HAND_MADE, bundle, full, random_webs, ring
from tests.plane_oracles import are_sides, stands_so, with_place_in

WAYS, RING = Web(2, [(0, 1), (1, 0), (0, 1)]), Web(3, [(0, 1), (1, 2), (2, 0)])
FIVE = full(5)
WIDE = Web(6, [(0, 2), (0, 3), (0, 4), (1, 2), (1, 3), (1, 4), (2, 3), (2, 4), (3, 4), (0, 5), (5, 1)])
HOUSES = Web(6, list(THREES.ties) + [(2, 5), (4, 4)])


class BentPlane(Plane):
    """A class below Plane: no value of it is a Plane."""


class BentNotPlane(NotPlane):
    """A class below NotPlane: no value of it is a NotPlane."""


def flat_webs(seed):
    """Webs of six places at most that lie in the plane."""
    webs = [web for web in HAND_MADE if web.places < 7] + random_webs(seed, 15, 5, 8) + [wheel(4), prism(3), bundle(5)]
    return [web for web in webs if plane(web)]


class Sides(Case):

    def asks(self, wanted, web, *parts):
        self.assertIs(shows_plane(web, Plane(*parts)), wanted, (web.ties, parts))

    def test_by_hand(self):
        for order in permutations(range(3)):
            self.asks(True, WAYS, RING, order)
            self.asks(True, RING, WAYS, list(order))
        self.asks(True, Web(2, [(0, 1)]), Web(1, [(0, 0)]), [0])
        self.asks(True, Web(1, [(0, 0)]), Web(1, []), [-1])
        self.asks(True, Web(1, []), Web(1, []), [])
        # A web of four places each two of which are tied is its own web of sides, opposite ties going with each other.
        self.asks(True, full(4), full(4), [5, 4, 3, 2, 1, 0])
        self.asks(False, full(4), full(4), [0, 1, 2, 3, 4, 5])

    def test_told_in_another_way(self):
        source = random.Random(381)
        for web in flat_webs(382):
            sides, ties = plane(web).parts
            for _ in range(3):
                order, places = source.sample(range(len(sides.ties)), len(sides.ties)), list(range(sides.places))
                source.shuffle(places)
                new = [None] * len(order)
                for tie, end in enumerate(order):
                    new[end] = tuple(places[stop] for stop in source.sample(sides.ties[tie], 2))
                self.asks(True, web, Web(sides.places, new), [-1 if end == -1 else order[end] for end in ties])

    def test_any_ties(self):
        asked = {True: 0, False: 0}
        for web in flat_webs(383):
            sides, ties = plane(web).parts
            if len(sides.ties) <= 5:
                for order in permutations(range(len(sides.ties))):
                    bent = [-1 if end == -1 else order[end] for end in ties]
                    wanted = are_sides(web, sides, bent)
                    asked[wanted] += 1
                    self.asks(wanted, web, sides, bent)
        self.assertGreater(min(asked.values()), 50)

    def test_ties_bent(self):
        for web in flat_webs(384):
            sides, ties = plane(web).parts
            for at in range(len(ties)):
                for end in list(range(-2, len(ties) + 1)) + [GREAT, -GREAT]:
                    bent = list(ties[:at]) + [end] + list(ties[at + 1:])
                    self.asks(are_sides(web, sides, bent), web, sides, bent)
                for value in not_integers():
                    self.asks(False, web, sides, ties[:at] + (value,) + ties[at + 1:])
            self.asks(False, web, sides, ties + (-1,))
            self.asks(False, web, sides, ties + (0,))
            self.asks(not ties, web, sides, ties[1:])

    def test_sides_bent(self):
        source, asked = random.Random(385), {True: 0, False: 0}
        for web in flat_webs(386):
            sides, ties = plane(web).parts
            for tie in range(len(sides.ties)):
                pairs = list(sides.ties)
                pairs[tie] = (source.randrange(sides.places), source.randrange(sides.places))
                try:
                    bent = Web(sides.places, pairs)
                except BadWeb:
                    continue
                wanted = are_sides(web, bent, list(ties))
                asked[wanted] += 1
                self.asks(wanted, web, bent, ties)
            if len(sides.ties) < 12:
                more = Web(sides.places + 1, list(sides.ties) + [(0, sides.places)])
                self.asks(False, web, more, ties)
                self.asks(False, web, Web(sides.places, list(sides.ties) + [(0, 0)]), ties)
        self.assertGreater(min(asked.values()), 20)

    def test_sides_of_other_webs(self):
        webs = flat_webs(387)
        for web, other in product(webs, webs):
            sides, ties = plane(other).parts
            wanted = len(ties) == len(web.ties) and are_sides(web, sides, list(ties))
            self.asks(wanted, web, sides, ties)

    def test_webs_that_do_not_lie_in_the_plane(self):
        for web in (FIVE, THREES, WIDE):
            for other in (FIVE, THREES, ring(10), bundle(10), full(4)):
                self.asks(False, web, other, list(range(len(web.ties))))

    def test_truths_for_numbers(self):
        self.asks(False, WAYS, RING, [False, True, 2])
        self.asks(False, WAYS, RING, [0, True, 2])
        self.asks(False, Web(2, [(0, 1)]), Web(1, [(0, 0)]), [False])

    def test_any_values_as_parts(self):
        for value in not_webs() + [LikeWeb(), RING.ties]:
            self.asks(False, WAYS, value, [0, 1, 2])
        for value in not_lists() + [RING, [[0, 1, 2]], []]:
            self.asks(False, WAYS, RING, value)
        self.asks(False, WAYS, [0, 1, 2], RING)


class Names(Case):

    def asks(self, wanted, web, *parts):
        self.assertIs(shows_plane(web, NotPlane(*parts)), wanted, (web.ties, parts))

    def test_by_hand(self):
        self.asks(True, WIDE, [], [10], [0, 1, 2, 3, 4, 1])
        self.asks(True, WIDE, (), (9,), (4, 3, 2, 1, 0, 4))
        self.asks(False, WIDE, [10], [9], [0, 1, 2, 3, 4, 0])
        self.asks(True, HOUSES, [8, 10], [], range_list(6))
        self.asks(True, HOUSES, [9, 10], [], range_list(6))
        self.asks(False, HOUSES, [10], [], range_list(6))
        self.asks(False, HOUSES, [9], [], range_list(6))
        self.asks(False, HOUSES, [9], [10], range_list(6))

    def test_any_names(self):
        for names in permutations(range(5)):
            self.asks(True, FIVE, [], [], names)
        for names in permutations(range(6)):
            self.asks(set(names[:3]) in ({0, 1, 2}, {3, 4, 5}), THREES, [], [], names)

    def test_drawn_from_more_ties(self):
        # Three ties lead to place 5, so that it may be made one with any of three, or some of them be struck.
        web = Web(6, list(FIVE.ties) + [(0, 5), (5, 1)])
        self.asks(True, web, [11], [10], [0, 1, 2, 3, 4, 0])
        self.asks(True, web, [10], [11], [0, 1, 2, 3, 4, 1])
        self.asks(True, web, [0], [10], [0, 1, 2, 3, 4, 0])
        self.asks(True, web, [0], [11], [0, 1, 2, 3, 4, 1])
        self.asks(False, web, [], [10], [0, 1, 2, 3, 4, 0])
        self.asks(False, web, [10, 11], [], [0, 1, 2, 3, 4, 0])
        self.asks(False, web, [10, 11], [], [0, 1, 2, 3, 4, 5])
        self.asks(False, web, [], [10, 11], [0, 0, 2, 3, 4, 0])

    def test_against_the_words_of_the_document(self):
        source, asked = random.Random(391), {True: 0, False: 0}
        webs = [FIVE, THREES, WIDE, HOUSES, Web(6, list(FIVE.ties) + [(0, 5), (5, 1)])]
        webs += [shuffled(source, with_place_in(FIVE, at)) for at in (0, 4, 7)]
        for web in webs:
            for _ in range(150):
                struck, drawn, names = [list(part) for part in plane(web).parts]
                for _ in range(source.randint(1, 2)):
                    bend(source, web, struck, drawn, names)
                wanted = stands_so(web, struck, drawn, names)
                asked[wanted] += 1
                self.asks(wanted, web, struck, drawn, names)
        self.assertGreater(min(asked.values()), 60)

    def test_rounds_among_drawn_ties(self):
        # Two ties beside one another from place 5: both drawn they are a round.
        web = Web(6, list(FIVE.ties) + [(0, 5), (5, 0)])
        self.asks(False, web, [], [10, 11], [0, 1, 2, 3, 4, 0])
        self.asks(True, web, [11], [10], [0, 1, 2, 3, 4, 0])
        self.asks(True, web, [10], [11], [0, 1, 2, 3, 4, 0])
        loop = Web(5, list(FIVE.ties) + [(2, 2)])
        self.asks(True, loop, [10], [], range_list(5))
        self.asks(False, loop, [], [10], range_list(5))

    def test_further_names(self):
        # Place 5 hangs on a tie that is struck: it has a name that none of K5 has.
        web = Web(6, list(FIVE.ties) + [(0, 5)])
        for name in (-1, 0, 5, 6, GREAT):
            self.asks(False, web, [10], [], [0, 1, 2, 3, 4, name])
        self.asks(True, web, [], [10], [0, 1, 2, 3, 4, 0])
        for name in (1, 5):
            self.asks(False, web, [], [10], [0, 1, 2, 3, 4, name])
        for more in (-1, 1, 5):
            self.asks(False, FIVE, [], [], [name + more for name in range(5)])

    def test_orders_and_ties_twice(self):
        self.asks(True, HOUSES, [9, 10], [], range_list(6))
        for struck in ([10, 9], [9, 9, 10], [9, 10, 10], [9, 10, 11], [-1, 9, 10], [-2, -1], [0, 9, 10]):
            self.asks(False, HOUSES, struck, [], range_list(6))
        for drawn in ([9, 10], [10, 9], [9, 9], [-1], [-2], [11], [0]):
            self.asks(False, WIDE, [], drawn, [0, 1, 2, 3, 4, 0])
        self.asks(False, WIDE, [9], [9], [0, 1, 2, 3, 4, 0])
        self.asks(False, WIDE, [9, 10], [9], [0, 1, 2, 3, 4, 0])

    def test_truths_for_numbers(self):
        self.asks(False, FIVE, [], [], [False, 1, 2, 3, 4])
        self.asks(False, FIVE, [], [], [0, True, 2, 3, 4])
        web = Web(5, [(0, 0), (0, 0)] + list(FIVE.ties))
        self.asks(True, web, [0, 1], [], range_list(5))
        self.asks(False, web, [False, 1], [], range_list(5))
        self.asks(False, web, [0, True], [], range_list(5))
        self.asks(False, Web(6, [(0, 5)] + list(FIVE.ties)), [], [False], [0, 1, 2, 3, 4, 0])

    def test_any_values_as_parts(self):
        for value in not_lists() + [FIVE, [[]], [None]]:
            self.asks(False, FIVE, value, [], range_list(5))
            self.asks(False, FIVE, [], value, range_list(5))
            self.asks(False, FIVE, [], [], value)
        for at, value in product(range(5), not_integers()):
            names = range_list(5)
            names[at] = value
            self.asks(False, FIVE, [], [], names)
        for value in not_integers() + [-1, 12, GREAT]:
            self.asks(False, HOUSES, [9, value], [], range_list(6))
            self.asks(False, WIDE, [], [value], [0, 1, 2, 3, 4, 0])
        for names in ([], range_list(4), range_list(6)):
            self.asks(False, FIVE, [], [], names)

    def test_webs_in_the_plane(self):
        for web in flat_webs(392):
            every = list(range(len(web.ties)))
            for struck, drawn in (([], []), (every, []), ([], every)):
                self.asks(False, web, struck, drawn, range_list(web.places))
                self.asks(False, web, struck, drawn, [0] * web.places)


def range_list(many):
    """The numbers up to one less than many."""
    return list(range(many))


def bend(source, web, struck, drawn, names):
    """Bend one of three lists of a paper."""
    way = source.choice(("names", "struck", "drawn", "name", "both"))
    ties = [tie for tie in range(len(web.ties)) if tie not in struck and tie not in drawn]
    if way == "names":
        one, other = source.sample(range(len(names)), 2)
        names[one], names[other] = names[other], names[one]
    elif way == "name":
        names[source.randrange(len(names))] = source.randint(0, 5)
    elif way == "struck":
        exchange(source, struck, ties)
    elif way == "drawn":
        exchange(source, drawn, ties)
    elif drawn:
        # A tie that leads to the same place is drawn for the one that was, and this one is struck or stays.
        tie = drawn.pop()
        other = source.choice(ties + struck)
        if other in struck:
            struck.remove(other)
        drawn.append(other)
        struck[:] = sorted(struck + source.choice(([], [tie])))


def exchange(source, some, ties):
    """Put a tie into a list, or take one out, or both."""
    if some and source.random() < 0.7:
        some.remove(source.choice(some))
    if source.random() < 0.7:
        some[:] = sorted(some + [source.choice(ties)])


class Values(Case):

    def test_other_values(self):
        right, deny = Plane(RING, [0, 1, 2]), NotPlane([], [], range_list(5))
        for value in not_lists() + [
                RING, right.parts, deny.parts, [right], Plane, NotPlane, Paper("plane", *right.parts),
                Denial("notplane", *deny.parts), BentPlane(*right.parts), BentNotPlane(*deny.parts),
                Denial("plane", *right.parts), Paper("notplane", *deny.parts), Plane(right, deny), NotPlane(right, deny, deny)]:
            self.assertIs(shows_plane(WAYS, value), False)
            self.assertIs(shows_plane(FIVE, value), False)
        self.assertIs(shows_plane(value=right, web=WAYS), True)
        self.assertIs(shows_plane(FIVE, deny), True)
        self.assertIs(shows_plane(WAYS, deny), False)
        self.assertIs(shows_plane(FIVE, right), False)

    def test_papers_of_other_webs(self):
        webs = [FIVE, THREES, WIDE, HOUSES] + [with_place_in(FIVE, at) for at in range(3)]
        for web, other in product(webs, webs):
            struck, drawn, names = [list(part) for part in plane(other).parts]
            fits = max(struck + drawn, default=0) < len(web.ties)
            wanted = fits and stands_so(web, struck, drawn, names)
            self.assertIs(shows_plane(web, plane(other)), wanted)

    def test_what_is_no_web(self):
        for value in not_webs():
            for paper in (None, Plane(RING, [0, 1, 2]), NotPlane([], [], range_list(5))):
                self.refuses(BadWeb, {"part": "web"}, shows_plane, value, paper)

    def test_too_many_places(self):
        for web in (Web(7, [(at, at + 1) for at in range(6)]), ring(12), Web(7, list(FIVE.ties) + [(0, 5), (5, 6)])):
            for paper in (None, Plane(RING, [0, 1, 2]), NotPlane([], [10, 11], [0, 1, 2, 3, 4, 0, 0])):
                self.refuses(TooMany, {"what": "places", "most": 6}, shows_plane, web, paper)

    def test_pairs_of_ties(self):
        # Any two ties struck or drawn of K5 and a place more, by the words of the document.
        web = with_place_in(FIVE, 4)
        for struck, drawn in product([()] + list(combinations(range(11), 1)), repeat=2):
            for names in ((0, 1, 2, 3, 4, 0), (0, 1, 2, 3, 4, 1), (0, 1, 2, 3, 4, 2)):
                wanted = stands_so(web, list(struck), list(drawn), list(names))
                self.assertIs(shows_plane(web, NotPlane(struck, drawn, names)), wanted)


if __name__ == "__main__":
    unittest.main()
