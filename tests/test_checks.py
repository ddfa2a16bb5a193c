"""The checks of any values."""

import unittest

from flowtells.checks import are_integers, first_twice, is_integer, is_within
from tests.helpers import GREAT, Case, not_integers, not_lists


class Integers(Case):

    def test_integers(self):
        for value in (0, 1, -1, 10, GREAT, -GREAT, 2 ** 200):
            self.assertIs(is_integer(value), True)
            self.assertIs(is_integer(value=value), True)

    def test_what_is_none(self):
        for value in not_integers():
            self.assertIs(is_integer(value), False)
            self.assertIs(is_integer(value=value), False)


class Within(Case):

    def test_at_both_bounds(self):
        found = [is_within(value, -2, 3) for value in range(-4, 6)]
        self.same_kind(found, [False, False, True, True, True, True, True, True, False, False])

    def test_no_bound(self):
        self.assertIs(is_within(-GREAT, None, 3), True)
        self.assertIs(is_within(3, None, 3), True)
        self.assertIs(is_within(4, None, 3), False)
        self.assertIs(is_within(GREAT, 3, None), True)
        self.assertIs(is_within(3, 3, None), True)
        self.assertIs(is_within(2, 3, None), False)
        self.assertIs(is_within(GREAT, None, None), True)
        self.assertIs(is_within(0, 0, 0), True)
        self.assertIs(is_within(0, 1, 0), False)
        self.assertIs(is_within(-1, 0, None), False)
        self.assertIs(is_within(1, None, 0), False)

    def test_great_bounds(self):
        self.assertIs(is_within(GREAT, GREAT, GREAT), True)
        self.assertIs(is_within(GREAT - 1, GREAT, None), False)
        self.assertIs(is_within(GREAT + 1, None, GREAT), False)

    def test_by_name(self):
        self.assertIs(is_within(most=3, least=1, value=2), True)
        self.assertIs(is_within(value=0, least=1, most=3), False)

    def test_what_is_no_integer(self):
        for value in not_integers():
            for least, most in ((0, 5), (None, 5), (0, None), (None, None)):
                self.assertIs(is_within(value, least, most), False)


class Lists(Case):

    def test_lists_and_tuples_of_integers(self):
        for values in ([], [0], [0, -10], [GREAT] * 3, [1, 1]):
            self.assertIs(are_integers(values), True)
            self.assertIs(are_integers(tuple(values)), True)
            self.assertIs(are_integers(value=values), True)

    def test_a_wrong_value_at_any_place(self):
        for wrong in not_integers():
            for at in range(3):
                values = [4, 5]
                values.insert(at, wrong)
                self.assertIs(are_integers(values), False)
                self.assertIs(are_integers(tuple(values)), False)

    def test_what_is_no_list(self):
        for value in not_lists():
            self.assertIs(are_integers(value), False)


class FirstTwice(Case):

    def test_none(self):
        for values in ([], [3], [1, 2, 3], (0, -1), [GREAT, -GREAT]):
            self.assertIsNone(first_twice(values))

    def test_the_first_that_comes_again(self):
        self.assertEqual(first_twice([2, 1, 1, 2]), 1)
        self.assertEqual(first_twice((2, 1, 2, 1)), 2)
        self.assertEqual(first_twice([0, 0]), 0)
        self.assertEqual(first_twice([5, 0, 3, 0, 5]), 0)
        self.assertEqual(first_twice([-1, 1, -1]), -1)
        self.assertEqual(first_twice(values=[7, 8, 9, 7]), 7)
        self.assertEqual(first_twice([GREAT, 1, GREAT]), GREAT)
        self.assertEqual(first_twice(list(range(2000)) + [1999, 0]), 1999)

    def test_what_is_passed_stays(self):
        values = [3, 1, 3]
        first_twice(values)
        self.assertEqual(values, [3, 1, 3])


if __name__ == "__main__":
    unittest.main()
