"""Webs: what makes one, equality, texts."""

import unittest

from flowtells.errors import BadText, BadWeb
from flowtells.webs import Web
from tests.helpers import GREAT, Case, Fussy, LikeWeb, Odd, not_integers, not_lists
from tests.oracles import HAND_MADE, LARGE, random_webs, ring

CHAIN = [(at, at + 1) for at in range(12)]


class Net(Web):
    """A class below Web: its values are of another class."""


class Making(Case):

    def test_attributes(self):
        for pairs in ([(0, 1), (1, 2)], [[0, 1], [1, 2]], ([0, 1], (1, 2)), ((0, 1), (1, 2))):
            web = Web(3, pairs)
            self.same_kind(web.places, 3)
            self.same_kind(web.ties, ((0, 1), (1, 2)))
        self.same_kind(Web(ties=[[1, 0]], places=2).ties, ((1, 0),))
        self.same_kind(Web(1, []).ties, ())

    def test_wrong_places(self):
        for places in [0, -1, 14, 15, GREAT, -GREAT] + not_integers():
            for ties in ([], [(0, 0)], None, [(5, 5)]):
                self.refuses(BadWeb, {"part": "places"}, Web, places, ties)

    def test_thirteen_places_and_fourteen(self):
        self.assertEqual(Web(13, CHAIN).places, 13)
        self.refuses(BadWeb, {"part": "places"}, Web, 14, CHAIN)
        self.refuses(BadWeb, {"part": "places"}, Web, 14, CHAIN + [(12, 13)])

    def test_twelve_ties_and_thirteen(self):
        for places, ties in ((13, CHAIN), (1, [(0, 0)] * 12), (2, [(0, 1)] * 12), (12, ring(12).ties)):
            self.assertEqual(len(Web(places, ties).ties), 12)
            self.refuses(BadWeb, {"part": "ties"}, Web, places, list(ties) + [(0, 0)])

    def test_ties_that_are_no_list(self):
        for ties in not_lists():
            self.refuses(BadWeb, {"part": "ties"}, Web, 1, ties)
            self.refuses(BadWeb, {"part": "ties"}, Web, 2, ties)

    def test_a_wrong_pair_at_any_place(self):
        wrong = not_lists() + [[], (), (0,), [0, 1, 1], (0, 0, 0), [[0, 1]], ((0,), (1,)), [0, [1]]]
        for pair in wrong:
            for at in range(3):
                ties = [(0, 1), (1, 0)]
                ties.insert(at, pair)
                self.refuses(BadWeb, {"part": "ties"}, Web, 2, ties)
                self.refuses(BadWeb, {"part": "ties"}, Web, 2, tuple(ties))

    def test_a_wrong_end(self):
        for end in not_integers() + [-1, 2, 13, GREAT, -GREAT]:
            self.refuses(BadWeb, {"part": "ties"}, Web, 2, [(0, 1), (end, 0)])
            self.refuses(BadWeb, {"part": "ties"}, Web, 2, [(0, 1), [1, end]])

    def test_the_last_place_is_an_end_and_the_next_is_none(self):
        for places in range(1, 13):
            ties = CHAIN[:places - 1]
            self.assertEqual(Web(places, ties).places, places)
            self.refuses(BadWeb, {"part": "ties"}, Web, places, ties + [(places - 1, places)])

    def test_apart(self):
        for places, ties in (
                (2, []), (13, []), (2, [(0, 0)]), (2, [(0, 0), (1, 1)]), (3, [(0, 1)]), (3, [(1, 2), (2, 1)]),
                (4, [(0, 1), (1, 0), (2, 3)]), (13, CHAIN[1:]), (13, CHAIN[:-1]), (13, CHAIN[:6] + CHAIN[7:]),
                (13, CHAIN[:6] + CHAIN[7:] + [(0, 2)]), (6, [(0, 1), (1, 2), (2, 0), (3, 4), (4, 5), (5, 3)])):
            self.refuses(BadWeb, {"part": "apart"}, Web, places, ties)

    def test_the_order_where_several_hold(self):
        self.refuses(BadWeb, {"part": "places"}, Web, True, [(0, 2)])
        self.refuses(BadWeb, {"part": "places"}, Web, 0, "none")
        self.refuses(BadWeb, {"part": "ties"}, Web, 3, [(0, 3)])
        self.refuses(BadWeb, {"part": "ties"}, Web, 3, [(0, 0)] * 13)
        self.refuses(BadWeb, {"part": "ties"}, Web, 3, [(0, 0), None])

    def test_what_was_passed_may_be_changed_behind(self):
        pair = [0, 1]
        ties = [pair, [1, 2]]
        web = Web(3, ties)
        pair[1] = 2
        ties.append([0, 0])
        self.same_kind(web.ties, ((0, 1), (1, 2)))
        self.same_kind(str(web), "3 : 0 1 1 2")

    def test_a_refused_list_stays(self):
        ties = [[0, 1], [0, 5]]
        self.refuses(BadWeb, {"part": "ties"}, Web, 2, ties)
        self.same_kind(ties, [[0, 1], [0, 5]])


class Equality(Case):

    def test_of_webs(self):
        web = Web(3, [(0, 1), (1, 2), (2, 0)])
        self.assertIs(web == Web(3, [[0, 1], [1, 2], [2, 0]]), True)
        self.assertIs(web != Web(3, ((0, 1), (1, 2), (2, 0))), False)
        for other in (
                Web(3, [(0, 1), (1, 2), (0, 2)]), Web(3, [(1, 2), (0, 1), (2, 0)]), Web(3, [(0, 1), (1, 2)]),
                Web(4, [(0, 1), (1, 2), (2, 0), (0, 3)]), Web(3, [(0, 1), (1, 2), (2, 0), (0, 0)])):
            self.assertIs(web == other, False)
            self.assertIs(web != other, True)

    def test_with_other_values(self):
        like = LikeWeb()
        for other in (None, 1, "1 :", (1, ()), [1, []], True, Odd(), like, Net(1, [])):
            self.assertIs(Web(1, []) == other, False)
            self.assertIs(Web(1, []) != other, True)


class Texts(Case):

    def test_there_and_back(self):
        for web in HAND_MADE + LARGE + random_webs(1, 60, 13, 12):
            text = str(web)
            self.assertEqual(text, " ".join([str(web.places), ":"] + [f"{one} {other}" for one, other in web.ties]))
            found = Web.read(text)
            self.assertIs(type(found), Web)
            self.same_kind((found.places, found.ties), (web.places, web.ties))
            self.assertTrue(Web.read(text=text) == web)

    def test_each_text_cut_short(self):
        items = "3 : 0 1 1 2 2 0".split(" ")
        for many in range(1, len(items)):
            text = " ".join(items[:many])
            if many == 2:
                self.refuses(BadText, {"line": 0, "item": 1}, Web.read, text)
            elif many == 4:
                self.refuses(BadText, {"line": 0, "item": 3}, Web.read, text)
            elif many == 6:
                self.assertEqual(Web.read(text), Web(3, [(0, 1), (1, 2)]))
            else:
                self.refuses(BadText, {"line": 0, "item": many}, Web.read, text)

    def test_too_long(self):
        loops = "1 :" + " 0" * 24
        self.assertEqual(Web.read(loops), Web(1, [(0, 0)] * 12))
        for more in (" 0", " 0 0", " ", " 1", " x", " :", "  ", " 0 9 9"):
            self.refuses(BadText, {"line": 0, "item": 26}, Web.read, loops + more)
        chain = str(Web(13, CHAIN))
        self.refuses(BadText, {"line": 0, "item": 26}, Web.read, chain + " 0 0")

    def test_an_item_in_no_right_writing(self):
        wrong = [
            "", "x", "-", "--1", "+1", "01", "00", "-0", "-01", "1.0", "1_0", "0x1", "\n", "1\n", "\t1", "1\t",
            ":", "::", "\u0661", "\u00b2", "\uff11", "None", "True", "1e0", "0,", "9" * 61, "0" * 61, "9" * 5000,
        ]
        for item in wrong:
            for at in (0, 2, 3, 4, 5):
                items = "2 : 0 1 1 0".split(" ")
                items[at] = item
                self.refuses(BadText, {"line": 0, "item": at}, Web.read, " ".join(items))
            if item != ":":
                self.refuses(BadText, {"line": 0, "item": 1}, Web.read, " ".join(["2", item, "0", "1"]))

    def test_empty_items(self):
        for text, item in (
                ("", 0), (" ", 0), (" 1 :", 0), ("1  :", 1), ("1 : ", 2), ("1 :  0 0", 2), ("1 : 0 ", 3),
                ("1 : 0  0", 3), ("1 : 0 0 ", 4), ("1 ", 1), ("1 :\n", 1), ("1\n:", 0)):
            self.refuses(BadText, {"line": 0, "item": item}, Web.read, text)

    def test_places_out_of_bounds(self):
        for places in ("0", "14", "-1", "-13", "100", str(GREAT), "9" * 60, "-" + "9" * 60):
            self.refuses(BadText, {"line": 0, "item": 0}, Web.read, places + " : 0 0")
        self.assertEqual(Web.read("1 :"), Web(1, []))
        self.assertEqual(Web.read(str(Web(13, CHAIN))).places, 13)

    def test_ends_out_of_bounds(self):
        for end in ("2", "13", "-1", str(GREAT)):
            self.refuses(BadText, {"line": 0, "item": 2}, Web.read, f"2 : {end} 1")
            self.refuses(BadText, {"line": 0, "item": 3}, Web.read, f"2 : 1 {end} 0 x")
            self.refuses(BadText, {"line": 0, "item": 5}, Web.read, f"2 : 1 0 1 {end}")

    def test_apart_shows_at_the_last_item(self):
        for text, item in (
                ("2 :", 1), ("13 :", 1), ("2 : 0 0", 3), ("3 : 0 1", 3), ("3 : 0 0 1 1 2 2", 7),
                ("2 :" + " 0" * 24, 25), ("4 : 0 1 2 3", 5)):
            self.refuses(BadText, {"line": 0, "item": item}, Web.read, text)

    def test_the_first_item_that_cannot_stand_is_told(self):
        self.refuses(BadText, {"line": 0, "item": 0}, Web.read, "0 x 9 9 9")
        self.refuses(BadText, {"line": 0, "item": 1}, Web.read, "3 x 9 9 9")
        self.refuses(BadText, {"line": 0, "item": 3}, Web.read, "3 : 0 9 9")
        self.refuses(BadText, {"line": 0, "item": 3}, Web.read, "3 : 0")
        self.refuses(BadText, {"line": 0, "item": 5}, Web.read, "3 : 0 0 0")

    def test_what_is_no_string(self):
        for value in not_lists() + [[], ["1", ":"], ("1 :",), Web(1, []), b"1 :", Fussy()]:
            if not isinstance(value, str):
                self.refuses(BadText, {"line": 0, "item": 0}, Web.read, value)

    def test_read_off_an_object(self):
        self.assertEqual(Web(1, []).read("2 : 1 0"), Web(2, [(1, 0)]))


if __name__ == "__main__":
    unittest.main()
