"""Webs that are alike, and webs that are not, against a trial of all ways."""

import random
import unittest
from itertools import combinations, product

from flowtells.alike import Alike, Unlike, alike
from flowtells.check_alike import shows_alike
from flowtells.errors import BadWeb
from flowtells.flows import flow_table
from flowtells.pieces import in_a_row
from flowtells.same import same
from flowtells.trees import many_trees
from flowtells.turns import turned
from flowtells.webs import Web, bridges, rounds
from tests.alike_oracles import are_alike, goes_over, others, shuffled
from tests.grown_oracles import CUBES, THREES, hung, prism, shapes, wheel
from tests.helpers import Case, not_webs
from tests.oracles import HAND_MADE, LARGE, bundle, full, random_web, random_webs, ring


class Asking(Case):

    def asks(self, one, other):
        """Whether two webs are alike, as alike tells; what it tells is right, the other way about too, and comes again."""
        paper, back = alike(one, other), alike(other, one)
        self.assertEqual(paper, alike(one=Web(one.places, one.ties), other=Web(other.places, list(other.ties))))
        if type(paper) is Alike:
            self.assertEqual([tie for tie, end in enumerate(paper.ties) if end == -1], list(bridges(one)))
            self.assertEqual(sorted(end for end in paper.ties if end != -1), others(other))
            found = [tuple(sorted(paper.ties[tie] for tie in circle)) for circle in rounds(one)]
            self.assertEqual(tuple(sorted(found)), rounds(other))
            turned_back = [-1] * len(other.ties)
            for tie, end in enumerate(paper.ties):
                if end != -1:
                    turned_back[end] = tie
            self.assertIs(shows_alike(other, one, Alike(turned_back)), True)
            self.assertIs(type(back), Alike)
        else:
            self.assertEqual([paper, back], [Unlike(), Unlike()])
        self.assertEqual([shows_alike(one, other, paper), shows_alike(other, one, back)], [True, True])
        self.assertIs(shows_alike(one, other, Unlike()), not paper)
        return bool(paper)


class Told(Asking):

    def test_numbered_anew(self):
        source = random.Random(301)
        for web in HAND_MADE + LARGE + shapes(302, 20):
            self.assertTrue(self.asks(web, web))
            self.assertTrue(self.asks(web, shuffled(source, web)))

    def test_bridges_more_or_fewer(self):
        source = random.Random(303)
        for web in HAND_MADE + shapes(304, 10):
            if len(web.ties) < 12 and web.places < 13:
                place = source.randrange(web.places)
                more = Web(web.places + 1, list(web.ties) + [(place, web.places)])
                self.assertTrue(self.asks(web, shuffled(source, more)))
        for one, other in combinations([Web(1, []), Web(2, [(0, 1)]), Web(13, [(0, at) for at in range(1, 13)])], 2):
            self.assertTrue(self.asks(one, other))
            self.assertFalse(self.asks(one, Web(1, [(0, 0)])))

    def test_parts_hung_elsewhere(self):
        source = random.Random(305)
        parts = [ring(1), ring(2), ring(3), bundle(3), full(4), wheel(3), Web(2, [(0, 1)])]
        for one, other in product(parts, parts):
            first = hung(one, other)
            places = list(range(one.places))
            source.shuffle(places)
            again = hung(Web(one.places, [tuple(places[end] for end in tie) for tie in one.ties]), other)
            self.assertTrue(self.asks(first, again))
            self.assertTrue(self.asks(first, hung(other, one)))
        star = Web(4, [(0, 1), (0, 1), (0, 2), (0, 2), (0, 3), (0, 3)])
        chain = Web(4, [(0, 1), (1, 0), (1, 2), (1, 2), (2, 3), (2, 3)])
        self.assertTrue(self.asks(star, chain))

    def test_turned_about_two_places(self):
        asked = 0
        for web in shapes(306, 20):
            for one, other in combinations(range(web.places), 2):
                for ties in ways_to_part(web, one, other):
                    asked += 1
                    self.assertTrue(self.asks(web, turned(web, one, other, ties)))
        self.assertGreater(asked, 60)

    def test_one_tie_moved(self):
        source, asked = random.Random(307), {True: 0, False: 0}
        for web in HAND_MADE + random_webs(308, 60, 5, 7):
            if web.ties:
                ties = list(web.ties)
                ties[source.randrange(len(ties))] = (source.randrange(web.places), source.randrange(web.places))
                try:
                    moved = Web(web.places, ties)
                except BadWeb:
                    continue
                if max(len(others(web)), len(others(moved))) <= 6:
                    wanted = are_alike(web, moved)
                    asked[wanted] += 1
                    self.assertEqual(self.asks(web, moved), wanted)
        self.assertGreater(min(asked.values()), 10)

    def test_against_a_trial_of_all_ways(self):
        webs = [web for web in HAND_MADE + random_webs(309, 40, 5, 7) if len(others(web)) <= 6]
        asked = {True: 0, False: 0}
        for one, other in combinations(webs, 2):
            if len(others(one)) == len(others(other)):
                wanted = are_alike(one, other)
                asked[wanted] += 1
                self.assertEqual(self.asks(one, other), wanted)
        self.assertGreater(min(asked.values()), 50)

    def test_of_seven_ties(self):
        source = random.Random(310)
        for _ in range(15):
            one, other = (random_web(source, 4, 7) for _ in range(2))
            if len(others(one)) == len(others(other)) and len(rounds(one)) == len(rounds(other)):
                self.assertEqual(self.asks(one, other), are_alike(one, other))

    def test_facts(self):
        webs = shapes(311, 25)
        for one, other in combinations(webs, 2):
            if self.asks(one, other):
                self.assertEqual(sorted(map(len, rounds(one))), sorted(map(len, rounds(other))))
                self.assertEqual(sorted(map(len, in_a_row(one))), sorted(map(len, in_a_row(other))))
                self.assertEqual(many_trees(one), many_trees(other))

    def test_exactly_if_tables_of_flows_are_one(self):
        asked = {True: 0, False: 0}
        source = random.Random(312)
        webs = shapes(313, 12)
        webs += [shuffled(source, web) for web in webs[::3]]
        for one, other in combinations(webs, 2):
            wanted = bool(same(flow_table(one), flow_table(other)))
            asked[wanted] += 1
            self.assertEqual(bool(alike(one, other)), wanted)
        self.assertGreater(min(asked.values()), 15)


def ways_to_part(web, one, other):
    """Some lists of ties that can be turned about these two places: what hangs together without them."""
    found = []
    names = {place: place for place in range(web.places) if place not in (one, other)}
    for _ in range(web.places):
        for first, second in web.ties:
            if first in names and second in names:
                names[first] = names[second] = min(names[first], names[second])
    for name in set(names.values()):
        found.append([tie for tie, pair in enumerate(web.ties) if any(names.get(end) == name for end in pair)])
    return found


class Large(Asking):
    """Webs of twelve ties with many ways to put them to one another, alike and not."""

    def test_loops_bundles_and_rings(self):
        source = random.Random(314)
        twelve = [Web(1, [(0, 0)] * 12), bundle(12), ring(12)]
        for one, other in product(twelve, twelve):
            self.assertEqual(self.asks(one, shuffled(source, other)), one == other)
        for at in range(1, 12):
            more = hung(bundle(at + 1), ring(11 - at)) if at < 11 else bundle(12)
            self.assertTrue(self.asks(more, shuffled(source, more)))
            self.assertEqual(self.asks(more, bundle(12)), more == bundle(12))

    def test_rows_of_drawn_lengths_between_two_places(self):
        source = random.Random(315)
        for _ in range(40):
            lengths = drawn_lengths(source)
            other = source.sample(lengths, len(lengths)) if source.random() < 0.5 else drawn_lengths(source)
            wanted = sorted(lengths) == sorted(other) or len(lengths) == len(other) == 2
            if sum(lengths) == sum(other):
                self.assertEqual(self.asks(rows_between(lengths), shuffled(source, rows_between(other))), wanted)

    def test_rings_of_bundles(self):
        source = random.Random(316)
        for _ in range(30):
            many, other = drawn_lengths(source), drawn_lengths(source)
            web, again = bundles_in_a_ring(many), bundles_in_a_ring(source.sample(many, len(many)))
            self.assertTrue(self.asks(web, shuffled(source, again)))
            wanted = sorted(many) == sorted(other) or (len(many) == len(other) == 2 and sum(many) == sum(other))
            self.assertEqual(self.asks(web, bundles_in_a_ring(other)), wanted)

    def test_twelve_ties(self):
        source = random.Random(317)
        webs = CUBES + LARGE + [prism(4), wheel(6), Web(3, [(0, 1), (1, 2), (2, 0)] * 4),
                                Web(6, [pair for pair in combinations(range(6), 2) if pair not in ((0, 1), (2, 3), (4, 5))])]
        for one, other in combinations(webs, 2):
            wanted = bool(same_sizes(one, other)) and self.asks(one, other)
            self.assertEqual(bool(alike(one, shuffled(source, other))), wanted)

    def test_threes_and_prisms(self):
        self.assertFalse(self.asks(THREES, prism(3)))
        self.assertFalse(self.asks(CUBES[0], CUBES[1]))
        self.assertTrue(self.asks(CUBES[0], prism(4)))


def same_sizes(one, other):
    """Whether two webs have as many ties other than bridges."""
    return len(others(one)) == len(others(other))


def drawn_lengths(source):
    """From two to six lengths, twelve together at the most."""
    lengths = [source.randint(1, 4) for _ in range(source.randint(2, 6))]
    return lengths if sum(lengths) <= 12 else drawn_lengths(source)


def rows_between(lengths):
    """Ways of so many ties each between two places."""
    ties, places = [], 2
    for many in lengths:
        stops = [0] + list(range(places, places + many - 1)) + [1]
        places += many - 1
        ties.extend(zip(stops, stops[1:]))
    return Web(places, ties)


def bundles_in_a_ring(lengths):
    """A ring in which so many ties each lead on from place to place."""
    places = len(lengths)
    return Web(places, [(at, (at + 1) % places) for at, many in enumerate(lengths) for _ in range(many)])


class Calls(Asking):

    def test_a_turned_way_is_right_by_its_words(self):
        for web in [web for web in HAND_MADE if len(web.ties) <= 7]:
            self.assertTrue(goes_over(web, web, alike(web, web).ties))

    def test_what_is_no_web(self):
        web = ring(3)
        for value in not_webs():
            self.refuses(BadWeb, {"part": "one"}, alike, value, web)
            self.refuses(BadWeb, {"part": "other"}, alike, web, value)
            self.refuses(BadWeb, {"part": "one"}, alike, value, value)


if __name__ == "__main__":
    unittest.main()
