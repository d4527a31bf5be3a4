import unittest

from lacekeys import errors
from tests.plain import strangers

FIELDS = {
    "InvalidLoad": "item", "InvalidBoxes": "item", "InvalidText": "part", "TooMany": "limit", "OverBudget": "total",
}
OTHERS = [
    "InvalidWord", "InvalidLayout", "InvalidBits", "InvalidCell", "InvalidKey", "InvalidBox", "InvalidIndex",
    "InvalidNumber", "InvalidSize", "InvalidBudget", "UnlikeGrids", "InvalidOperation", "Nothing", "InvalidCommand",
]


class ErrorsTest(unittest.TestCase):
    def test_base_is_a_value_error(self):
        self.assertEqual(errors.LaceError.__mro__[1:], ValueError.__mro__)

    def test_each_is_a_lace_error_and_of_no_other_class(self):
        for name in list(FIELDS) + OTHERS:
            with self.subTest(name):
                kind = getattr(errors, name)
                self.assertEqual(kind.__name__, name)
                self.assertEqual(kind.__module__, "lacekeys.errors")
                self.assertEqual(kind.__mro__, (kind,) + errors.LaceError.__mro__)

    def test_there_are_no_others(self):
        there = {name for name, value in vars(errors).items() if isinstance(value, type)}
        self.assertEqual(there, {"LaceError"} | set(FIELDS) | set(OTHERS))

    def test_fields_are_attributes(self):
        for name, field in FIELDS.items():
            for value in [None, 0, 3, 20, 10 ** 90, *strangers()]:
                with self.subTest(name, value=value):
                    error = getattr(errors, name)(value)
                    self.assertIs(getattr(error, field), value)
                    self.assertEqual(vars(error), {field: value})
                    self.assertIsInstance(str(error), str)

    def test_fields_are_needed(self):
        for name in FIELDS:
            with self.subTest(name), self.assertRaises(TypeError):
                getattr(errors, name)()

    def test_others_take_a_string(self):
        for name in OTHERS + ["LaceError"]:
            with self.subTest(name):
                error = getattr(errors, name)("words")
                self.assertEqual(str(error), "words")
                self.assertEqual(vars(error), {})

    def test_are_raised_and_caught_by_either_base(self):
        for name in list(FIELDS) + OTHERS:
            for base in (errors.LaceError, ValueError, getattr(errors, name)):
                with self.subTest(name, base=base), self.assertRaises(base):
                    raise getattr(errors, name)("words")


if __name__ == "__main__":
    unittest.main()
