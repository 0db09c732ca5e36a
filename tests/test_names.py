"""What integers, names, letters and texts are."""

import unittest

from loneguess.base import names
from loneguess.base.names import is_integer, is_letters, is_name, is_text
from loneguess.errors import InvalidLetters
from tests.checks import expect
from tests.examples import run_examples
from tests.values import LONG, TOO_LONG, kinds

EXAMPLES = """
>>> [is_integer(-3), is_integer(True), is_name("left"), is_letters("ab"), is_letters("ba"), is_letters(""), is_text("ab", "abba"), is_text("ab", "abc"), is_text("ab", "")]
[True, False, True, True, False, False, True, False, True]
"""


class NamesTests(unittest.TestCase):
    def all_are(self, wanted, call, *values):
        for value in values:
            self.assertIs(call(value), wanted)

    def test_examples(self):
        run_examples(self, EXAMPLES, names)

    def test_constants(self):
        self.assertEqual((names.MAX_LETTERS, names.MAX_DIGITS), (8, 200))

    def test_integers(self):
        self.all_are(True, is_integer, 0, 1, -1, 400, 10 ** 199, LONG, -LONG, 10 ** 64, -(10 ** 199))
        self.all_are(False, is_integer, TOO_LONG, -TOO_LONG, TOO_LONG + 1, 10 ** 299, -(10 ** 299), 10 ** 9000)
        self.all_are(False, is_integer, True, False)
        for value in kinds():
            wanted = isinstance(value, int) and not isinstance(value, bool) and abs(value) < TOO_LONG
            self.assertIs(is_integer(value), wanted)

    def test_names(self):
        self.all_are(True, is_name, "a", "z", "left", "abcdefgh", "zzzzzzzz", "not", "all")
        self.all_are(False, is_name, "", "abcdefghi", "A", "aB", "a1", "a b", " a", "a\n", "a_b", "~", "\u00e4", "{", "`")
        for value in kinds():
            if not isinstance(value, str):
                self.assertIs(is_name(value), False)

    def test_letters(self):
        self.all_are(True, is_letters, "a", "z", "ab", "az", "abc", "wxyz", "acxz")
        self.all_are(False, is_letters, "", "abcde", "ba", "aa", "aab", "abb", "acb", "A", "aB", "a1", "a ", "a\n", "\u00e4")
        for value in kinds():
            self.assertIs(is_letters(value), False)

    def test_texts(self):
        for text in ("", "a", "b", "abba", "b" * 4000):
            self.assertIs(is_text("ab", text), True)
        for text in ("c", "abc", "A", " ", "a b", "ab\n", "~"):
            self.assertIs(is_text("ab", text), False)
        self.assertIs(is_text("a", "ab"), False)
        self.assertIs(is_text("z", "zzz"), True)
        self.assertIs(is_text("acxz", "xcza"), True)
        self.assertIs(is_text("acxz", "xb"), False)
        for value in kinds():
            self.assertIs(is_text("c", value), False)

    def test_text_of_wrong_letters(self):
        for letters in [*kinds(), "", "abcde", "ba", "aa"]:
            for value in ("", "a", 5, None, ()):
                expect(self, InvalidLetters, is_text, letters, value)


if __name__ == "__main__":
    unittest.main()
