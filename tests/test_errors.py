"""The errors: what they keep, and what they are under."""

import unittest

from onlyjoins import errors
from shapes import odd_values

JOIN_ERRORS = {
    "BadTree": "value", "BadRules": "place", "BadStore": "place", "BadUnfolding": "value",
    "BadNumber": "value", "BadPaper": "place", "BadText": "line",
}
OTHERS = {"Needed": ("paper", LookupError), "TooMany": ("most", OverflowError)}


class ErrorsTest(unittest.TestCase):

    def all_fields(self):
        fields = dict(JOIN_ERRORS)
        fields.update({name: field for name, (field, _) in OTHERS.items()})
        return [(getattr(errors, name), field) for name, field in fields.items()]

    def test_join_error_is_a_value_error_without_fields(self):
        self.assertEqual(errors.JoinError.__bases__, (ValueError,))
        self.assertIsInstance(errors.JoinError(), ValueError)
        with self.assertRaises(ValueError):
            raise errors.JoinError

    def test_refusals_are_direct_subclasses_of_join_error(self):
        for name in JOIN_ERRORS:
            kind = getattr(errors, name)
            self.assertEqual(kind.__bases__, (errors.JoinError,), name)
            self.assertFalse(issubclass(kind, (LookupError, ArithmeticError)), name)

    def test_needed_and_too_many_are_no_join_errors(self):
        for name, (_, base) in OTHERS.items():
            kind = getattr(errors, name)
            self.assertEqual(kind.__bases__, (base,), name)
            self.assertFalse(issubclass(kind, (errors.JoinError, ValueError)), name)
        self.assertFalse(issubclass(errors.Needed, (KeyError, IndexError, OverflowError)))
        self.assertFalse(issubclass(errors.TooMany, LookupError))

    def test_each_is_defined_in_errors(self):
        for name in ["JoinError", *JOIN_ERRORS, *OTHERS]:
            self.assertEqual(getattr(errors, name).__module__, "onlyjoins.errors", name)

    def test_field_keeps_any_value_by_position_and_by_name(self):
        for kind, field in self.all_fields():
            for value in odd_values():
                self.assertIs(getattr(kind(value), field), value)
                self.assertIs(getattr(kind(**{field: value}), field), value)

    def test_field_is_set_on_each_object(self):
        for kind, field in self.all_fields():
            one, other = kind("one"), kind("other")
            self.assertEqual([vars(one)[field], vars(other)[field]], ["one", "other"])

    def test_field_is_wanted(self):
        for kind, _ in self.all_fields():
            with self.assertRaises(TypeError):
                kind()
            with self.assertRaises(TypeError):
                kind(1, 2)

    def test_message_never_shows_the_value(self):
        for kind, _ in self.all_fields():
            for value in odd_values():
                self.assertIsInstance(str(kind(value)), str)
                self.assertIsInstance(repr(kind(value)), str)

    def test_errors_are_caught_by_their_own_names_only(self):
        kinds = [kind for kind, _ in self.all_fields()]
        for kind in kinds:
            for other in kinds:
                self.assertEqual(issubclass(kind, other), kind is other)


if __name__ == "__main__":
    unittest.main()
