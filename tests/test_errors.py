"""Promise [0.21]."""
import unittest

from slantways import errors
from tests.helper import Case, wrong_values

WITH_MESSAGE = (
    "InvalidSlope", "InvalidWay", "InvalidText", "InvalidShelf", "InvalidHeap", "InvalidScale", "InvalidField",
    "InvalidRoom", "InvalidChain", "InvalidShuffle", "InvalidParting", "InvalidOperation",
)
KEEPING = (
    ("ParseError", "index", errors.SlantError), ("InvalidNumber", "value", IndexError),
    ("UnknownName", "name", KeyError), ("TooMany", "limit", OverflowError),
    ("Refused", "reason", ArithmeticError), ("NothingToUndo", "many", LookupError),
)


class ErrorsTest(Case):
    def test_bases(self):
        self.assertEqual(errors.SlantError.__bases__, (ValueError,))
        for name in WITH_MESSAGE:
            self.assertEqual(getattr(errors, name).__bases__, (errors.SlantError,), name)
        for name, _, base in KEEPING:
            self.assertEqual(getattr(errors, name).__bases__, (base,), name)

    def test_defined_there(self):
        for name in ("SlantError",) + WITH_MESSAGE + tuple(name for name, _, _ in KEEPING):
            self.assertEqual(getattr(errors, name).__module__, "slantways.errors")
            self.assertEqual(getattr(errors, name).__name__, name)

    def test_messages(self):
        for name in ("SlantError",) + WITH_MESSAGE:
            self.assertEqual(str(getattr(errors, name)("some words")), "some words")

    def test_kept(self):
        for name, attribute, base in KEEPING:
            for value in wrong_values() + [("common", 2), 10 ** 5000, ValueError("x")]:
                error = getattr(errors, name)(value)
                self.assertIs(getattr(error, attribute), value)
                self.assertEqual(vars(error), {attribute: value})
                self.assertIsInstance(error, base)

    def test_caught_by_base(self):
        for name in WITH_MESSAGE:
            with self.assertRaises(errors.SlantError):
                raise getattr(errors, name)("some words")
        for name, _, base in KEEPING:
            with self.assertRaises(base):
                raise getattr(errors, name)(3)
        self.assertNotIsInstance(errors.InvalidNumber(3), ValueError)
        self.assertNotIsInstance(errors.Refused(("common", 2)), ValueError)


if __name__ == "__main__":
    unittest.main()
