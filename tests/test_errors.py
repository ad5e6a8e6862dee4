"""The refusals of slate/errors.py."""

import unittest

from slate import errors

REFUSALS = ("BadPlace", "BadFormula", "TooGreat", "NoRing", "BadSize", "Outside", "BadSpan", "BadRow")


class Refusals(unittest.TestCase):
    def test_the_root_is_a_value_error_and_none_of_the_refusals(self):
        self.assertTrue(issubclass(errors.SlateError, ValueError))
        for name in REFUSALS:
            self.assertFalse(issubclass(errors.SlateError, getattr(errors, name)), name)

    def test_each_is_a_slate_error_and_a_value_error(self):
        for name in REFUSALS:
            error = getattr(errors, name)("words")
            self.assertIsInstance(error, errors.SlateError, name)
            self.assertIsInstance(error, ValueError, name)

    def test_none_is_under_another(self):
        for name in REFUSALS:
            error = getattr(errors, name)("words")
            for other in REFUSALS:
                self.assertEqual(isinstance(error, getattr(errors, other)), name == other, (name, other))

    def test_each_is_called_by_its_name(self):
        for name in ("SlateError",) + REFUSALS:
            self.assertEqual(getattr(errors, name).__name__, name)

    def test_each_is_made_from_one_text_and_keeps_it(self):
        for name in ("SlateError",) + REFUSALS:
            self.assertEqual(str(getattr(errors, name)("some words")), "some words", name)

    def test_each_is_raised_and_taken_as_any_refusal(self):
        for name in REFUSALS:
            with self.assertRaises(errors.SlateError):
                raise getattr(errors, name)("words")


class At(unittest.TestCase):
    def test_a_bad_formula_without_a_number_has_nought(self):
        self.assertEqual(errors.BadFormula("words").at, 0)

    def test_a_bad_formula_with_a_number_has_it(self):
        for at in (0, 1, 7, 6000):
            error = errors.BadFormula("words", at)
            self.assertEqual(error.at, at)
            self.assertEqual(str(error), "words")

    def test_each_bad_formula_has_a_number_of_its_own(self):
        one = errors.BadFormula("words", 3)
        other = errors.BadFormula("words")
        self.assertEqual((one.at, other.at), (3, 0))

    def test_the_number_is_there_where_it_is_taken(self):
        with self.assertRaises(errors.BadFormula) as taken:
            raise errors.BadFormula("words", 5)
        self.assertEqual(taken.exception.at, 5)


if __name__ == "__main__":
    unittest.main()
