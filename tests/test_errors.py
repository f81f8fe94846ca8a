"""[1.1] and [1.2]: the errors."""

import unittest

from helpers import Case
from movemarks import errors

DIRECT = ("InvalidMove", "InvalidGroup", "InvalidSubgroup", "InvalidSet", "InvalidRow", "InvalidKinds",
          "InvalidRatio", "InvalidTable", "InvalidPromise", "InvalidOperation", "ParseError")
KEEPING = {"InvalidNumber": (IndexError, "given"), "UnknownName": (KeyError, "wanted"),
           "TooMany": (OverflowError, "most"), "Refused": (ArithmeticError, "reason"),
           "NothingToUndo": (LookupError, "steps")}


class Errors(Case):

    def test_mark_error(self):
        self.assertEqual(errors.MarkError.__bases__, (ValueError,))

    def test_derived_directly_from_mark_error(self):
        for name in DIRECT:
            self.assertEqual(getattr(errors, name).__bases__, (errors.MarkError,), name)

    def test_made_with_one_message(self):
        for name in ("MarkError",) + DIRECT[:-1]:
            self.assertEqual(str(getattr(errors, name)("why not")), "why not")

    def test_derived_from_errors_of_python(self):
        for name, (base, _) in KEEPING.items():
            self.assertEqual(getattr(errors, name).__bases__, (base,), name)
            self.assertFalse(issubclass(getattr(errors, name), errors.MarkError))

    def test_keep_what_was_passed(self):
        told = [(name, kept) for name, (_, kept) in KEEPING.items()] + [("ParseError", "index")]
        for name, kept in told:
            for passed in (None, 0, True, 10 ** 99, "roots", ("roots", 2), [1], ()):
                error = getattr(errors, name)(passed)
                self.assertIs(getattr(error, kept), passed)
                self.assertIsInstance(str(error), str)

    def test_each_is_its_own_class(self):
        names = ("MarkError",) + DIRECT + tuple(KEEPING)
        self.assertEqual(len({getattr(errors, name) for name in names}), 17)


if __name__ == "__main__":
    unittest.main()
