"""What several tests need: values of all kinds, and a case that asks for errors with their fields."""

import unittest
from fractions import Fraction

from flowtells.errors import NetError
from flowtells.lots import Lot
from flowtells.tables import Table
from flowtells.webs import Web

GREAT = 10 ** 39 + 7


class Odd:
    """An object of another class."""


class Fussy:
    """An object that will not be compared, counted, gone through or asked for its truth."""

    __hash__ = None

    def refuse(self, *rest):
        raise RuntimeError("asked")

    __eq__ = __ne__ = __lt__ = __le__ = __gt__ = __ge__ = refuse
    __bool__ = __len__ = __iter__ = __getitem__ = __index__ = __contains__ = __str__ = refuse


class LikeWeb:
    """An object with the attributes of a web."""

    places = 1
    ties = ()


def not_integers():
    """Values that are no integers, new ones at each call."""
    return [
        True, False, None, "", "1", "-1", b"1", 1.0, 0.0, Fraction(1), 1 + 0j, [], [1], (1,), (), [[1]], {}, {1: 1},
        {1}, range(2), int, Odd(), Fussy(),
    ]


def not_lists():
    """Values that are neither lists nor tuples, new ones at each call."""
    return [
        True, False, None, 0, 1, -1, GREAT, -GREAT, "", "01", "[0]", b"", b"\x00\x01", 1.0, {}, {0: 1}, {0}, range(0),
        range(3), iter([0]), list, Odd(), Fussy(), LikeWeb(),
    ]


def not_webs():
    """Values that are no webs, new ones at each call."""
    return not_lists() + [[], (), (1, ()), [3, [[0, 1], [1, 2]]], "1 :", "3 : 0 1 1 2 2 0", [[[[[None]]]]]]


class LikeTable:
    """An object with the attributes of a table."""

    rows, size, determinant = ((2, -1), (-1, 2)), 2, 3


def not_tables():
    """Values that are no tables, new ones at each call."""
    return not_lists() + [
        [], (), [[1]], ((1,),), [[2, -1], [-1, 2]], ((2, -1), (-1, 2)), "1 : 7", "2 : 2 -1 -1 2", LikeTable(), Table,
        Web(1, [(0, 0)])]


class LikeLot:
    """An object with the attributes of a lot."""

    size, rows, times, table = 1, ((1,),), (1,), Table([[1]])


def not_lots():
    """Values that are no lots, new ones at each call."""
    return not_tables() + [[[[1]], [1]], ((((1,),), (1,))), Table([[1]]), LikeLot(), Lot]


class Case(unittest.TestCase):
    """A test case that asks for an error of just one class with just these fields."""

    def refuses(self, error, fields, call, *values, **named):
        with self.assertRaises(NetError) as caught:
            call(*values, **named)
        found = caught.exception
        self.assertIs(type(found), error)
        self.assertEqual(list(vars(found)), list(fields))
        for name, value in fields.items():
            kept = getattr(found, name)
            self.assertTrue(kept is value or (type(kept) is type(value) and kept == value), (name, kept, value))

    def same_kind(self, found, wanted):
        """Equal, and of the same kinds all the way in: no list for a tuple, no True for 1."""
        self.assertEqual(repr(found), repr(wanted))
        self.assertEqual(found, wanted)
