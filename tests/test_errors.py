"""Promise 30, and what promise 3 says of the errors: their fields and their base classes."""

import unittest

from clearsheets import errors
from clearsheets.errors import (
    BadMode, BadRule, BadText, BadWay, ClearError, Full, NoGroup, NothingToUndo, NotKept, TooMany,
)
from tests.values import any_values

FIELDS = {
    BadMode: ("value",),
    BadRule: ("number", "word"),
    BadText: ("place",),
    BadWay: ("number", "word"),
    Full: (),
    NothingToUndo: (),
    NotKept: ("broken",),
    TooMany: ("limit",),
    NoGroup: ("group",),
}
CLEAR_ERRORS = [kind for kind in FIELDS if kind is not NoGroup]


def made(kind, value=None):
    """Return an error of this kind with the value in each of its fields."""
    return kind(*[value for _ in FIELDS[kind]])


class FieldsTest(unittest.TestCase):

    def test_one_field_is_the_value_as_it_is(self):
        for kind in (BadMode, BadText, NotKept, TooMany, NoGroup):
            for value in any_values():
                with self.subTest(kind=kind.__name__, value=repr(value)[:60]):
                    self.assertIs(getattr(kind(value), FIELDS[kind][0]), value)

    def test_fields_by_their_names(self):
        self.assertEqual(BadMode("even").value, "even")
        self.assertEqual(BadText(4).place, 4)
        self.assertEqual(NotKept(("show", (0, 1))).broken, ("show", (0, 1)))
        self.assertEqual(TooMany(400).limit, 400)
        self.assertEqual(NoGroup((0, 2)).group, (0, 2))

    def test_number_and_word_are_the_values_as_they_are(self):
        values = any_values()
        for kind in (BadRule, BadWay):
            for at, word in enumerate(values):
                number = values[at - 1]
                with self.subTest(kind=kind.__name__, word=repr(word)[:60]):
                    error = kind(number, word)
                    self.assertIs(error.number, number)
                    self.assertIs(error.word, word)

    def test_number_comes_ahead_of_word(self):
        for kind in (BadRule, BadWay):
            error = kind(2, "barred")
            self.assertEqual((error.number, error.word), (2, "barred"))
            error = kind(None, "tables")
            self.assertEqual((error.number, error.word), (None, "tables"))

    def test_two_errors_do_not_share_their_fields(self):
        for kind in FIELDS:
            one, other = made(kind, "one"), made(kind, "other")
            for name in FIELDS[kind]:
                self.assertEqual((getattr(one, name), getattr(other, name)), ("one", "other"))

    def test_what_is_handed_over_is_not_changed(self):
        for kind in FIELDS:
            for value in any_values():
                told = repr(value)
                made(kind, value)
                self.assertEqual(repr(value), told)

    def test_a_list_in_a_field_stays_the_same_list(self):
        held = [1, [2]]
        error = BadMode(held)
        held.append(3)
        self.assertIs(error.value, held)

    def test_fields_are_there_where_the_error_is_caught(self):
        with self.assertRaises(BadRule) as caught:
            raise BadRule(0, "barred")
        self.assertEqual((caught.exception.number, caught.exception.word), (0, "barred"))

    def test_messages_can_be_told_for_all_values(self):
        for kind in FIELDS:
            for value in any_values():
                self.assertIs(type(str(made(kind, value))), str)
                self.assertIs(type(repr(made(kind, value))), str)


class BasesTest(unittest.TestCase):

    def test_just_the_base_classes_that_are_told(self):
        self.assertEqual(ClearError.__bases__, (ValueError,))
        self.assertEqual(NoGroup.__bases__, (LookupError,))
        for kind in CLEAR_ERRORS:
            with self.subTest(kind=kind.__name__):
                self.assertEqual(kind.__bases__, (ClearError,))

    def test_clear_errors_are_value_errors_and_no_lookup_errors(self):
        for error in [ClearError("told")] + [made(kind) for kind in CLEAR_ERRORS]:
            with self.subTest(error=type(error).__name__):
                self.assertIsInstance(error, ClearError)
                self.assertIsInstance(error, ValueError)
                self.assertNotIsInstance(error, LookupError)
                self.assertNotIsInstance(error, NoGroup)

    def test_no_group_is_a_lookup_error_alone(self):
        error = NoGroup((0,))
        self.assertIsInstance(error, LookupError)
        for kind in [ClearError, ValueError, KeyError, IndexError] + CLEAR_ERRORS:
            self.assertNotIsInstance(error, kind)

    def test_no_error_is_one_of_the_others(self):
        for kind in FIELDS:
            for other in FIELDS:
                with self.subTest(kind=kind.__name__, other=other.__name__):
                    self.assertIs(isinstance(made(kind), other), kind is other)

    def test_each_is_caught_by_its_base_class(self):
        for kind in CLEAR_ERRORS:
            with self.assertRaises(ClearError):
                raise made(kind)
            with self.assertRaises(ValueError):
                raise made(kind)
        with self.assertRaises(LookupError):
            raise NoGroup(())

    def test_each_is_defined_in_errors(self):
        for kind in [ClearError] + list(FIELDS):
            self.assertEqual(kind.__module__, "clearsheets.errors")
            self.assertIs(getattr(errors, kind.__name__), kind)


if __name__ == "__main__":
    unittest.main()
