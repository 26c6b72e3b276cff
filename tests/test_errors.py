"""Promise [4]: the errors."""

import unittest

from overtaken import errors
from tests.values import any_values

WORDS = ("InvalidRule", "InvalidPlan", "Refused")
PLACES = ("InvalidText", "InvalidWeaving")
BARE = ("InvalidGoal", "InvalidCommand", "Mismatch")


class Errors(unittest.TestCase):
    def test_base_class(self):
        self.assertEqual(errors.LetterError.__bases__, (ValueError,))

    def test_direct_subclasses(self):
        for name in WORDS + PLACES + BARE:
            self.assertEqual(getattr(errors, name).__bases__, (errors.LetterError,), name)

    def test_no_rule_is_an_index_error_alone(self):
        self.assertEqual(errors.NoRule.__bases__, (IndexError,))
        self.assertFalse(issubclass(errors.NoRule, errors.LetterError))

    def test_all_classes_are_defined_in_the_module(self):
        for name in WORDS + PLACES + BARE + ("LetterError", "NoRule"):
            found = getattr(errors, name)
            self.assertEqual((found.__name__, found.__module__), (name, "overtaken.errors"))

    def test_arguments_are_kept_themselves(self):
        for name in WORDS:
            for value in any_values() + [object(), {"a": 1}, 1.5]:
                self.assertIs(getattr(errors, name)(value).word, value, name)
                self.assertIs(getattr(errors, name)(word=value).word, value, name)
        for name in PLACES + ("NoRule",):
            for value in any_values() + [object(), {"a": 1}, 1.5]:
                self.assertIs(getattr(errors, name)(value).at, value, name)
                self.assertIs(getattr(errors, name)(at=value).at, value, name)

    def test_bare_errors(self):
        for name in BARE:
            self.assertEqual(vars(getattr(errors, name)()), {})

    def test_each_is_caught_by_its_base(self):
        for name in WORDS + PLACES:
            with self.assertRaises(errors.LetterError):
                raise getattr(errors, name)(0)
        for name in BARE:
            with self.assertRaises(errors.LetterError):
                raise getattr(errors, name)()
        with self.assertRaises(IndexError):
            raise errors.NoRule(-1)

    def test_arguments_must_be_passed(self):
        for name in WORDS + PLACES + ("NoRule",):
            with self.assertRaises(TypeError):
                getattr(errors, name)()


if __name__ == "__main__":
    unittest.main()
