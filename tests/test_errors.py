"""The errors: their fields, and what stands below what."""

import unittest

from flowtells import errors
from flowtells.errors import (
    BadLot, BadNumber, BadTable, BadText, BadWeb, Misfit, Missing, NetError, NoPlace, NoTie, TooMany, Twice)
from tests.helpers import GREAT, Case, Fussy, Odd

FIELDS = {
    BadNumber: ["part"], BadWeb: ["part"], BadTable: ["part"], BadLot: ["part"], Misfit: ["part"],
    Missing: ["value"], NoPlace: ["value"], NoTie: ["value"], Twice: ["value"], TooMany: ["what", "most"],
    BadText: ["line", "item"],
}
VALUES = [None, True, 0, GREAT, "web", [1, [2]], (), {"a": 1}, Odd(), Fussy(), ValueError("x")]


class Fields(Case):

    def test_by_place_and_by_name(self):
        for error, fields in FIELDS.items():
            for at, value in enumerate(VALUES):
                told = [value, VALUES[at - 1]][:len(fields)]
                for made in (error(*told), error(**dict(zip(fields, told)))):
                    with self.subTest(error=error.__name__, at=at):
                        self.assertEqual(list(vars(made)), fields)
                        for name, kept in zip(fields, told):
                            self.assertIs(getattr(made, name), kept)

    def test_fields_by_name_in_any_order(self):
        many, text = TooMany(most=5, what="rows"), BadText(item=3, line=0)
        self.assertEqual((many.what, many.most, text.line, text.item), ("rows", 5, 0, 3))

    def test_other_numbers_of_fields_are_refused(self):
        for error, fields in FIELDS.items():
            with self.assertRaises(TypeError):
                error()
            with self.assertRaises(TypeError):
                error(*[1] * (len(fields) + 1))

    def test_a_mutable_value_is_kept_as_it_was_passed(self):
        value = [1, 2]
        self.assertIs(NoTie(value).value, value)


class Order(Case):

    def test_what_stands_directly_below_what(self):
        self.assertEqual(NetError.__bases__, (ValueError,))
        for error in FIELDS:
            wanted = (Missing,) if error in (NoPlace, NoTie) else (NetError,)
            self.assertEqual(error.__bases__, wanted, error.__name__)

    def test_none_below_another_one(self):
        for one in FIELDS:
            for other in FIELDS:
                wanted = one is other or (one in (NoPlace, NoTie) and other is Missing)
                self.assertEqual(issubclass(one, other), wanted, (one.__name__, other.__name__))

    def test_only_below_what_a_value_error_is_below(self):
        for error in FIELDS:
            for wider in (LookupError, KeyError, TypeError, ArithmeticError, RuntimeError, UnicodeError):
                self.assertFalse(issubclass(error, wider))

    def test_all_classes_are_here(self):
        found = {name for name, value in vars(errors).items() if isinstance(value, type)}
        self.assertEqual(found, {error.__name__ for error in FIELDS} | {"NetError"})

    def test_raised_and_caught_by_name(self):
        for error, fields in FIELDS.items():
            with self.assertRaises(error) as caught:
                raise error(*[7] * len(fields))
            self.assertEqual(list(vars(caught.exception).values()), [7] * len(fields))
            self.assertIsInstance(caught.exception, NetError)
            self.assertIsInstance(caught.exception, ValueError)


if __name__ == "__main__":
    unittest.main()
