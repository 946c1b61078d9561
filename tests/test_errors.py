"""Errors [17]."""

import unittest

from pagestack import errors

NAMES = ("MarkupError", "TreeError", "StyleError", "SizeError", "ScriptError", "RunError", "PlaceError",
         "TemplateError", "PolicyError", "StoreError")


class Errors(unittest.TestCase):
    def test_all_stand_under_page_error_which_is_a_value_error(self):
        self.assertTrue(issubclass(errors.PageError, ValueError))
        for name in NAMES:
            kind = getattr(errors, name)
            self.assertTrue(issubclass(kind, errors.PageError), name)
            self.assertEqual(kind.__module__, "pagestack.errors")

    def test_no_kind_stands_under_another(self):
        for name in NAMES:
            for other in NAMES:
                if name != other:
                    self.assertFalse(issubclass(getattr(errors, name), getattr(errors, other)))

    def test_a_run_error_has_its_word(self):
        error = errors.RunError("no list")
        self.assertEqual(error.word, "no list")
        self.assertEqual(str(error), "no list")


if __name__ == "__main__":
    unittest.main()
