import unittest

from sourceforms import errors
from tests.support import CUBIC, Case

PLAIN = ("InvalidForm", "InvalidTable", "InvalidSum", "InvalidRatio", "InvalidPoint", "InvalidRows", "InvalidOperation")
KEEPING = {
    "ParseError": ("spot", errors.LetterError),
    "InvalidNumber": ("given", IndexError),
    "UnknownName": ("name", KeyError),
    "TooMany": ("limit", OverflowError),
    "Refused": ("reason", ArithmeticError),
    "NothingToUndo": ("steps", LookupError),
}
KEPT = (None, True, 0, -7, 10 ** 99, 10 ** 5000, "", "a text", (), ("row", 1), [1, [2]], {1: 2}, CUBIC)


class Errors(Case, unittest.TestCase):
    def test_bases(self):
        self.assertEqual(errors.LetterError.__bases__, (ValueError,))
        for name in PLAIN + ("ParseError",):
            self.assertEqual(getattr(errors, name).__bases__, (errors.LetterError,), name)
        for name, (_, base) in KEEPING.items():
            self.assertEqual(getattr(errors, name).__bases__, (base,), name)

    def test_those_beside_are_no_letter_errors(self):
        for name in ("InvalidNumber", "UnknownName", "TooMany", "Refused", "NothingToUndo"):
            self.assertFalse(issubclass(getattr(errors, name), errors.LetterError), name)

    def test_all_are_defined_there(self):
        for name in PLAIN + tuple(KEEPING) + ("LetterError",):
            self.assertEqual(getattr(errors, name).__module__, "sourceforms.errors")

    def test_messages(self):
        for name in PLAIN + ("LetterError",):
            self.assertEqual(str(getattr(errors, name)("told so")), "told so")

    def test_kept_values(self):
        for name, (kept, _) in KEEPING.items():
            for value in KEPT:
                error = getattr(errors, name)(value)
                self.assertIs(getattr(error, kept), value)

    def test_one_value_is_taken(self):
        for name in KEEPING:
            with self.assertRaises(TypeError):
                getattr(errors, name)()
            with self.assertRaises(TypeError):
                getattr(errors, name)(1, 2)

    def test_raised_and_caught(self):
        for name, (kept, base) in KEEPING.items():
            with self.assertRaises(base) as caught:
                raise getattr(errors, name)(("row", 3))
            self.assertEqual(getattr(caught.exception, kept), ("row", 3))


if __name__ == "__main__":
    unittest.main()
