"""Promises [21] and [22], and what [3] says of error classes."""

import copy
import unittest

from lesslater import errors
from tests.samples import no_integers

FIELDS_OF_PLAN_ERRORS = {
    "BadDay": ("value",),
    "BadDurations": ("index",),
    "BadFraction": ("place",),
    "BadMost": ("most",),
    "BadPlan": ("number", "word"),
    "BadText": ("line",),
    "Full": (),
    "Late": ("durations",),
    "NoBack": ("many",),
    "NoGroup": ("group",),
    "NotBeside": (),
    "NothingToUndo": (),
    "TooMany": ("limit",),
}
FIELDS_OF_LOOKUP_ERRORS = {
    "NoPair": ("before", "behind"),
    "NoTask": ("number",),
}
FIELDS = {**FIELDS_OF_PLAN_ERRORS, **FIELDS_OF_LOOKUP_ERRORS}


def some_arguments(fields):
    """Yield tuples with a value for each field, of every kind at every place."""
    values = no_integers() + [0, 1, -1, 10 ** 40 - 1]
    for shift in range(len(values)):
        yield tuple(values[(shift + place) % len(values)] for place in range(len(fields)))


class FieldsTest(unittest.TestCase):
    def test_fields_keep_the_very_values_given(self):
        for name, fields in FIELDS.items():
            for arguments in some_arguments(fields):
                error = getattr(errors, name)(*arguments)
                for field, argument in zip(fields, arguments):
                    with self.subTest(name, field=field, argument=argument):
                        self.assertIs(getattr(error, field), argument)

    def test_there_are_no_other_fields(self):
        for name, fields in FIELDS.items():
            with self.subTest(name):
                error = getattr(errors, name)(*range(len(fields)))
                self.assertEqual(vars(error), dict(zip(fields, range(len(fields)))))

    def test_a_list_is_kept_and_not_copied(self):
        rows = [1]
        error = errors.BadMost(rows)
        rows.append(2)
        self.assertEqual(error.most, [1, 2])

    def test_two_errors_of_a_class_keep_their_own_values(self):
        one, other = errors.BadPlan(0, "low"), errors.BadPlan(None, "ring")
        self.assertEqual((one.number, one.word), (0, "low"))
        self.assertEqual((other.number, other.word), (None, "ring"))

    def test_fields_are_there_where_the_error_is_caught(self):
        for name, fields in FIELDS.items():
            with self.subTest(name):
                arguments = tuple([] for _ in fields)
                with self.assertRaises(getattr(errors, name)) as caught:
                    raise getattr(errors, name)(*arguments)
                for field, argument in zip(fields, arguments):
                    self.assertIs(getattr(caught.exception, field), argument)

    def test_an_error_can_be_shown_and_copied(self):
        for name, fields in FIELDS.items():
            with self.subTest(name):
                error = getattr(errors, name)(*range(len(fields)))
                self.assertIsInstance(str(error), str)
                self.assertEqual(vars(copy.copy(error)), vars(error))


class ClassesTest(unittest.TestCase):
    def test_plan_error_is_a_value_error_and_no_lookup_error(self):
        self.assertEqual(errors.PlanError.__bases__, (ValueError,))
        self.assertFalse(issubclass(errors.PlanError, LookupError))

    def test_plan_errors_stand_directly_under_plan_error(self):
        for name in FIELDS_OF_PLAN_ERRORS:
            with self.subTest(name):
                kind = getattr(errors, name)
                self.assertEqual(kind.__bases__, (errors.PlanError,))
                self.assertTrue(issubclass(kind, ValueError))
                self.assertFalse(issubclass(kind, LookupError))

    def test_lookup_errors_stand_directly_under_lookup_error(self):
        for name in FIELDS_OF_LOOKUP_ERRORS:
            with self.subTest(name):
                kind = getattr(errors, name)
                self.assertEqual(kind.__bases__, (LookupError,))
                self.assertFalse(issubclass(kind, errors.PlanError))
                self.assertFalse(issubclass(kind, ValueError))

    def test_none_stands_beneath_another_one(self):
        for name in FIELDS:
            for other in FIELDS:
                if name != other:
                    with self.subTest(name, other=other):
                        self.assertFalse(issubclass(getattr(errors, name), getattr(errors, other)))

    def test_each_class_has_its_name(self):
        # A desk answers with the name of an error's class.
        for name in ("PlanError", *FIELDS):
            with self.subTest(name):
                self.assertEqual(getattr(errors, name).__name__, name)

    def test_there_are_no_other_errors(self):
        found = {name for name, value in vars(errors).items() if isinstance(value, type)}
        self.assertEqual(found, {"PlanError", *FIELDS})


if __name__ == "__main__":
    unittest.main()
