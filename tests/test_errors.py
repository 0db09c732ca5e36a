"""Errors: what they derive from, what they keep, what catches them."""

import unittest

from loneguess import errors
from tests.values import ODD, kinds

PLAIN = ("InvalidName", "InvalidLetters", "InvalidText", "InvalidReader", "InvalidTally",
         "InvalidFormula", "InvalidOperation")
KEEPING = (
    ("InvalidNumber", IndexError, "value"), ("UnknownName", KeyError, "name"),
    ("TooMany", OverflowError, "limit"), ("NothingToUndo", LookupError, "many"),
    ("NotLone", ArithmeticError, "text"), ("Broken", ArithmeticError, "name"),
)


class ErrorTests(unittest.TestCase):
    def test_bases(self):
        self.assertEqual(errors.ReaderError.__bases__, (ValueError,))
        for name in (*PLAIN, "ParseError"):
            self.assertEqual(getattr(errors, name).__bases__, (errors.ReaderError,), name)
        for name, base, _ in KEEPING:
            self.assertEqual(getattr(errors, name).__bases__, (base,), name)

    def test_messages(self):
        for name in (*PLAIN, "ReaderError"):
            self.assertEqual(str(getattr(errors, name)("so it is")), "so it is")

    def test_kept(self):
        for value in (*kinds(), "odd", 60):
            for name, _, attribute in (*KEEPING, ("ParseError", None, "index")):
                error = getattr(errors, name)(value)
                self.assertIs(getattr(error, attribute), value)
                self.assertEqual(list(vars(error)), [attribute])

    def test_kept_by_keyword(self):
        for name, _, attribute in (*KEEPING, ("ParseError", None, "index")):
            error = getattr(errors, name)(**{attribute: 7})
            self.assertEqual(getattr(error, attribute), 7)

    def test_str_is_repr_of_the_kept(self):
        for value in (3, True, None, "odd", "", "it's", (1, "a"), [], {}, 10 ** 299, ODD):
            self.assertEqual(str(errors.InvalidNumber(value)), repr(value))
            self.assertEqual(str(errors.UnknownName(value)), repr(value))
        self.assertEqual(str(errors.InvalidNumber(value="a")), "'a'")
        self.assertEqual(str(errors.UnknownName(name="a")), "'a'")

    def test_what_catches(self):
        wide = (ValueError, IndexError, KeyError, LookupError, OverflowError, ArithmeticError, errors.ReaderError)
        caught = {"InvalidNumber": (IndexError, LookupError), "UnknownName": (KeyError, LookupError),
                  "TooMany": (OverflowError, ArithmeticError), "NothingToUndo": (LookupError,),
                  "NotLone": (ArithmeticError,), "Broken": (ArithmeticError,),
                  "ReaderError": (ValueError, errors.ReaderError)}
        for name in (*PLAIN, "ParseError"):
            caught[name] = (ValueError, errors.ReaderError)
        for name, catching in caught.items():
            error = getattr(errors, name)
            for base in wide:
                self.assertEqual(issubclass(error, base), base in catching, (name, base))

    def test_none_catches_another(self):
        names = [*PLAIN, "ParseError", *[name for name, _, _ in KEEPING]]
        for one in names:
            for other in names:
                derived = issubclass(getattr(errors, one), getattr(errors, other))
                self.assertEqual(derived, one == other)

    def test_raised_and_caught(self):
        with self.assertRaises(LookupError) as caught:
            raise errors.InvalidNumber(7)
        self.assertEqual((caught.exception.value, str(caught.exception)), (7, "7"))
        with self.assertRaises(ValueError) as caught:
            raise errors.ParseError(2)
        self.assertEqual(caught.exception.index, 2)


if __name__ == "__main__":
    unittest.main()
