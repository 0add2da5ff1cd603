import inspect
import unittest

from fillbands import errors

FIELDS = {
    "InvalidZones": "item",
    "InvalidPlaces": "item",
    "InvalidText": "part",
    "TooLarge": "limit",
    "OverRoom": "count",
}
PLAIN = [
    "InvalidBorders",
    "InvalidSystem",
    "InvalidUnknown",
    "InvalidSpan",
    "InvalidNumber",
    "InvalidBudget",
    "UnlikeSystems",
    "Bordered",
    "NotCoupled",
    "InvalidOperation",
    "Nothing",
    "InvalidCommand",
]


class Errors(unittest.TestCase):
    def test_the_classes_are_those_of_the_document(self):
        found = [name for name, _ in inspect.getmembers(errors, inspect.isclass)]
        self.assertEqual(sorted(found), sorted([*FIELDS, *PLAIN, "FillError"]))

    def test_each_is_a_fill_error_and_of_no_other_class_of_the_package(self):
        self.assertEqual(errors.FillError.__bases__, (ValueError,))
        for name in [*FIELDS, *PLAIN]:
            with self.subTest(name):
                kind = getattr(errors, name)
                self.assertEqual(kind.__bases__, (errors.FillError,))
                self.assertEqual(kind.__module__, "fillbands.errors")

    def test_a_field_is_what_was_passed(self):
        for name, field in FIELDS.items():
            for value in (0, 7, 10 ** 30, None):
                with self.subTest(name, value=value):
                    error = getattr(errors, name)(value)
                    self.assertEqual(getattr(error, field), value)
                    self.assertIsInstance(error, errors.FillError)
                    self.assertIsInstance(error, ValueError)
                    self.assertEqual(vars(error), {field: value})

    def test_the_others_take_a_string(self):
        for name in [*PLAIN, "FillError"]:
            with self.subTest(name):
                error = getattr(errors, name)("some words")
                self.assertEqual(str(error), "some words")
                self.assertIsInstance(error, ValueError)
                self.assertEqual(vars(error), {})

    def test_a_field_is_caught_by_its_own_class(self):
        with self.assertRaises(errors.OverRoom) as caught:
            raise errors.OverRoom(17)
        self.assertEqual(caught.exception.count, 17)


if __name__ == "__main__":
    unittest.main()
