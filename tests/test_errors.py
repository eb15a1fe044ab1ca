"""The error classes of the interface."""

import inspect
import unittest

from untoldrule import errors

# Each class with the names in its brackets, and a value for each.
EXPECTED = {
    "InvalidCells": {},
    "UnknownCell": {"cell": "x"},
    "OutOfRange": {"cell": "x", "value": -7},
    "InvalidState": {"cell": "y"},
    "InvalidProgram": {"line": 3},
    "InvalidSystem": {"name": "flip"},
    "UnknownProgram": {"name": "mark"},
    "InvalidTable": {"function": "f"},
    "InvalidPlan": {},
    "TooManySteps": {"number": 9},
    "InvalidWeaving": {"position": 4},
    "InvalidPlaces": {"place": (0, 1)},
    "NoWeaving": {"position": -1},
    "UnknownFormula": {"number": 12},
    "NotKept": {"start": (0, 1), "program": "flip"},
    "Refused": {"lane": 2, "position": 5},
}


class ErrorsTest(unittest.TestCase):
    def test_base_class_is_a_value_error(self):
        self.assertEqual(errors.WeaveError.__bases__, (ValueError,))

    def test_each_class_is_a_direct_subclass_of_the_base_class(self):
        for name in EXPECTED:
            with self.subTest(name=name):
                self.assertEqual(getattr(errors, name).__bases__, (errors.WeaveError,))

    def test_there_are_no_other_classes(self):
        found = {name for name, value in vars(errors).items() if inspect.isclass(value)}
        self.assertEqual(found, {"WeaveError", *EXPECTED})

    def test_arguments_have_the_listed_names_and_order(self):
        for name, fields in EXPECTED.items():
            with self.subTest(name=name):
                parameters = inspect.signature(getattr(errors, name)).parameters
                self.assertEqual(list(parameters), list(fields))

    def test_attributes_are_the_values_that_were_passed(self):
        for name, fields in EXPECTED.items():
            with self.subTest(name=name):
                error = getattr(errors, name)(*fields.values())
                self.assertEqual(vars(error), fields)

    def test_a_cell_may_be_none(self):
        self.assertIsNone(errors.InvalidState(None).cell)

    def test_each_error_can_be_raised_and_has_a_message(self):
        for name, fields in EXPECTED.items():
            with self.subTest(name=name):
                with self.assertRaises(ValueError) as caught:
                    raise getattr(errors, name)(*fields.values())
                self.assertIs(caught.exception.__class__, getattr(errors, name))
                self.assertTrue(str(caught.exception))


if __name__ == "__main__":
    unittest.main()
