"""Readers: their parts, operators and methods, and what each of them refuses."""

import unittest

from loneguess.errors import InvalidLetters, InvalidNumber, InvalidOperation, InvalidReader
from loneguess.errors import InvalidText, TooMany
from loneguess.read import readers
from loneguess.read.readers import Reader
from tests.brute import all_ways, texts_up_to
from tests.checks import expect, expect_kept, expect_number
from tests.examples import run_examples
from tests.values import BEFORE, ENDA, EVERY, NOTHING, ODD, SOME, TOO_LONG
from tests.values import full_reader, kinds, kinds_but, some_readers

EXAMPLES = """
>>> ["bab" in ODD, "aa" in ODD, BEFORE[0, "a"], BEFORE[2, "a"], len(BEFORE), str(BEFORE), "c" in ODD]
[True, False, (0, 1), (), 3, 'reader of 3 states, 5 arrows', False]
>>> few = Reader.of_texts("ab", ("ba", "", "b"))
>>> [few.lasts, few.arrows, ENDA.without_arrow(0, "a", 1).lasts, SOME.with_ends(lasts=(0, 1)).lasts, ODD.over("abc").letters]
[(0, 1, 2), ((0, 'b', 1), (1, 'a', 2)), (1,), (0, 1), 'abc']
>>> Reader("ab", 2, (0,), (2,), ())
raises InvalidReader
"""
ARROWS = ((0, "a", 1), (1, "b", 0))
NO_SETS = ((1, 0), (0, 0), (2,), (-1,), (0, 2), (True,), (None,), ("a",), ((0,),), (0, True), (TOO_LONG,), [], [0], {},
           {0: 1}, None, True, 0, 1, "", "0", "ab", ODD, InvalidNumber(0))
NO_LETTERS = (None, 0, True, "", "ba", "aa", "abcde", "A", "a1", ("a",), ["a"], {"a": 1}, ODD)
NO_SIZES = (None, True, False, 0, -1, 61, 62, TOO_LONG, -TOO_LONG, 10 ** 299, "1", "", (1,), [1], {}, (), ODD)
NO_STATES = (None, True, False, -1, 2, 60, TOO_LONG, -TOO_LONG, "0", "a", (0,), (), [0], {}, ODD)
NO_LETTER = (None, 0, True, "", "c", "ab", "aa", "A", " ", "\n", ("a",), (), ["a"], {"a": 1}, ODD)


def parts(reader):
    """All that a reader tells of itself."""
    return (reader.letters, len(reader), reader.firsts, reader.lasts, reader.arrows, str(reader))


class MakingTests(unittest.TestCase):
    def test_examples(self):
        run_examples(self, EXAMPLES)

    def test_constant(self):
        self.assertEqual(readers.MAX_STATES, 60)

    def test_parts_are_as_told(self):
        reader = Reader("ab", 2, (0, 1), (), ARROWS)
        self.assertEqual(parts(reader), ("ab", 2, (0, 1), (), ARROWS, "reader of 2 states, 2 arrows"))
        reader = Reader("z", 1, (), (), ())
        self.assertEqual(parts(reader), ("z", 1, (), (), (), "reader of 1 states, 0 arrows"))
        reader = Reader("acxz", 60, (0, 59), (59,), ((0, "a", 59), (0, "x", 0), (59, "z", 59)))
        self.assertEqual(parts(reader)[:4], ("acxz", 60, (0, 59), (59,)))

    def test_all_arrows(self):
        reader = full_reader("abcd", 60)
        self.assertEqual(str(reader), "reader of 60 states, 14400 arrows")

    def test_sizes(self):
        self.assertEqual(len(Reader("a", 1, (0,), (0,), ())), 1)
        self.assertEqual(len(Reader("a", 60, (0,), (59,), ())), 60)
        for size in NO_SIZES:
            expect_number(self, size, Reader, "a", size, (), (), ())

    def test_letters(self):
        for letters in NO_LETTERS:
            expect(self, InvalidLetters, Reader, letters, 1, (), (), ())
            expect(self, InvalidLetters, Reader, letters, 0, None, None, None)

    def test_ends_that_are_no_sets(self):
        for ends in NO_SETS:
            expect(self, InvalidReader, Reader, "ab", 2, ends, (), ARROWS)
            expect(self, InvalidReader, Reader, "ab", 2, (), ends, ARROWS)
            expect(self, InvalidReader, Reader, "ab", 2, ends, ends, None)

    def test_arrows(self):
        one, two = ARROWS
        for arrows in ((two, one), (one, one), (one, (0, "b")), ((0, "a", 1, 0),), ((),), (0,), ("a",), (None,),
                       ([0, "a", 1],), ((0, "c", 1),), ((0, "", 1),), ((0, "ab", 1),), ((0, 0, 1),), ((0, None, 1),),
                       ((2, "a", 0),), ((0, "a", 2),), ((-1, "a", 0),), ((0, "a", -1),), ((True, "a", 0),),
                       ((0, "a", True),), ((False, "a", 0),), (("0", "a", 0),), ((0, "a", TOO_LONG),), ((0, "b", 0), one),
                       ((0, "a", 1), (0, "a", 0)), ((0, ("a",), 1),), [one, two], {}, {one: two}, None, 0, True, "", ODD):
            expect(self, InvalidReader, Reader, "ab", 2, (0,), (1,), arrows)

    def test_wrong_values_of_all_kinds(self):
        for value in kinds():
            expect(self, InvalidLetters, Reader, value, 3, (0,), (1,), ())
            expect_number(self, value, Reader, "c", value, (), (), ())
            if value != (0, 1):
                expect(self, InvalidReader, Reader, "c", 1, value, (0,), ())
                expect(self, InvalidReader, Reader, "c", 1, (0,), value, ())
                expect(self, InvalidReader, Reader, "c", 1, (0,), (0,), value)

    def test_first_wrong_argument_decides(self):
        expect(self, InvalidLetters, Reader, "ba", 0, (1, 0), (1, 0), None)
        expect_number(self, 0, Reader, "ab", 0, (1, 0), (1, 0), None)
        expect_number(self, 61, Reader, "ab", 61, (), (), [])
        expect(self, InvalidReader, Reader, "ab", 1, (1, 0), (1, 0), None)

    def test_no_shared_state(self):
        told = ((0, "a", 1), (1, "b", 0))
        reader = Reader("ab", 2, (0,), (1,), told)
        self.assertEqual(reader, Reader("ab", 2, (0,), (1,), ARROWS))
        self.assertEqual(told, ARROWS)


class OfTextsTests(unittest.TestCase):
    def test_no_texts(self):
        self.assertEqual(Reader.of_texts("ab", ()), Reader("ab", 1, (0,), (), ()))

    def test_the_empty_text(self):
        self.assertEqual(Reader.of_texts("ab", ("",)), Reader("ab", 1, (0,), (0,), ()))

    def test_order_and_repeats_have_no_effect(self):
        one = Reader.of_texts("ab", ("ba", "b", "ab"))
        self.assertEqual(one, Reader.of_texts("ab", ("ab", "ba", "ab", "b", "b")))
        self.assertEqual(parts(one)[1:5], (5, (0,), (2, 3, 4), ((0, "a", 1), (0, "b", 2), (1, "b", 3), (2, "a", 4))))

    def test_shorter_beginnings_come_first(self):
        reader = Reader.of_texts("abz", ("aab", "z"))
        self.assertEqual(reader.lasts, (2, 4))
        self.assertEqual(reader.arrows, ((0, "a", 1), (0, "z", 2), (1, "a", 3), (3, "b", 4)))

    def test_just_these_texts(self):
        texts = ("abb", "", "ba", "bab", "aab")
        reader = Reader.of_texts("ab", texts)
        for text in texts_up_to("ab", 4):
            self.assertEqual(len(all_ways(reader, text)), int(text in texts))
            self.assertIs(text in reader, text in texts)

    def test_sixty_beginnings(self):
        self.assertEqual(len(Reader.of_texts("ab", ("a" * 59,))), 60)
        self.assertEqual(len(Reader.of_texts("ab", ("a" * 30, "b" * 29))), 60)
        for texts in (("a" * 60,), ("a" * 30, "b" * 30), ("a" * 4000, "b" * 4000)):
            expect_kept(self, TooMany, "limit", 60, Reader.of_texts, "ab", texts)

    def test_wrong_arguments(self):
        for letters in NO_LETTERS:
            expect(self, InvalidLetters, Reader.of_texts, letters, None)
            expect(self, InvalidLetters, Reader.of_texts, letters, ("a" * 60, 3))
        for texts in (None, True, 0, "", "ab", [], ["a"], {}, {"a": 1}, ODD):
            expect(self, InvalidOperation, Reader.of_texts, "ab", texts)
        for text in [*kinds(), "c", "abc", " "]:
            if text not in ("ba", "aa"):
                expect(self, InvalidText, Reader.of_texts, "ab", ("a", text))
                expect(self, InvalidText, Reader.of_texts, "ab", ("a" * 60, text))

    def test_of_another_class_method_call(self):
        self.assertEqual(ODD.of_texts("a", ("a",)), Reader("a", 2, (0,), (1,), ((0, "a", 1),)))


class OperatorTests(unittest.TestCase):
    def test_in(self):
        for reader in [*some_readers(1, 60), ODD, ENDA, BEFORE, SOME, EVERY, NOTHING]:
            for text in texts_up_to("ab", 5):
                self.assertIs(text in reader, all_ways(reader, text) != [])

    def test_in_for_what_is_no_text(self):
        for value in [*kinds(), "c", "ac", " ", "a\n"]:
            if value not in ("ba", "aa"):
                self.assertIs(value in EVERY, False)

    def test_in_with_a_long_text(self):
        self.assertIs("ab" * 2000 in ODD, False)
        self.assertIs("ab" * 2000 + "a" in ODD, True)
        self.assertIs("abcd" * 1000 in full_reader("abcd", 60), True)

    def test_item(self):
        for reader in [*some_readers(2, 40), BEFORE]:
            for state in range(len(reader)):
                for letter in reader.letters:
                    wanted = tuple(other for one, sign, other in reader.arrows if (one, sign) == (state, letter))
                    self.assertEqual(reader[state, letter], wanted)

    def test_item_with_wrong_arguments(self):
        for at in (None, True, 0, 1, "a", "0a", (), (0,), (0, "a", 1), [0, "a"], {}, {0: "a"}, ODD, ((0, "a"),)):
            expect(self, InvalidOperation, lambda: ODD[at])
        for state in NO_STATES:
            expect_number(self, state, lambda: ODD[state, "a"])
            expect_number(self, state, lambda: ODD[state, "c"])
        for letter in NO_LETTER:
            expect(self, InvalidText, lambda: ODD[0, letter])

    def test_len_and_str(self):
        self.assertEqual([len(reader) for reader in (ODD, BEFORE, EVERY)], [2, 3, 1])
        self.assertEqual(str(EVERY), "reader of 1 states, 2 arrows")
        self.assertEqual(str(NOTHING), "reader of 1 states, 0 arrows")

    def test_equal(self):
        self.assertTrue(ODD == Reader(*parts(ODD)[:5]))
        self.assertFalse(ODD != Reader(*parts(ODD)[:5]))
        others = [Reader("abc", *parts(ODD)[1:5]), Reader("ab", 3, *parts(ODD)[2:5]), ODD.with_ends(firsts=(1,)),
                  ODD.with_ends(lasts=(0,)), ODD.without_arrow(0, "a", 1), ENDA]
        for other in [*others, *kinds_but(Reader), (), parts(ODD), ODD.arrows, "ab", 2, InvalidNumber(2)]:
            self.assertIs(ODD == other, False)
            self.assertIs(other == ODD, False)
            self.assertIs(ODD != other, True)

    def test_not_iterated_over(self):
        for call in (iter, list, tuple, sorted, set, lambda reader: [1 for _ in reader], lambda reader: (*reader,)):
            expect(self, TypeError, call, ODD)

    def test_parts_cannot_be_assigned(self):
        for name in ("letters", "firsts", "lasts", "arrows"):
            with self.assertRaises(AttributeError):
                setattr(ODD, name, ())


class MethodTests(unittest.TestCase):
    def setUp(self):
        self.reader = Reader("ab", 2, (0,), (1,), ARROWS)
        self.before = parts(self.reader)

    def tearDown(self):
        self.assertEqual(parts(self.reader), self.before)

    def test_with_arrow(self):
        for arrow in ((0, "a", 0), (0, "b", 1), (1, "b", 1)):
            more = self.reader.with_arrow(*arrow)
            self.assertEqual(more.arrows, tuple(sorted([*ARROWS, arrow])))
            self.assertEqual(more.without_arrow(*arrow), self.reader)
            self.assertEqual(parts(more)[:4], self.before[:4])

    def test_without_arrow(self):
        less = self.reader.without_arrow(1, "b", 0)
        self.assertEqual(less.arrows, ((0, "a", 1),))
        self.assertEqual(less.with_arrow(1, "b", 0), self.reader)
        self.assertEqual(less.without_arrow(0, "a", 1).arrows, ())

    def test_arrows_there_and_not_there(self):
        expect(self, InvalidOperation, self.reader.with_arrow, 0, "a", 1)
        expect(self, InvalidOperation, self.reader.without_arrow, 0, "a", 0)
        expect(self, InvalidOperation, self.reader.without_arrow, 1, "a", 0)

    def test_arrows_with_wrong_arguments(self):
        for call in (self.reader.with_arrow, self.reader.without_arrow):
            for state in NO_STATES:
                expect_number(self, state, call, state, "c", None)
                expect_number(self, state, call, 0, "a", state)
                expect_number(self, state, call, state, "a", 1)
            for letter in NO_LETTER:
                expect(self, InvalidText, call, 0, letter, 1)
                expect(self, InvalidText, call, 0, letter, 2)

    def test_with_ends(self):
        for firsts in (None, (), (0,), (1,), (0, 1)):
            for lasts in (None, (), (0,), (1,), (0, 1)):
                other = self.reader.with_ends(firsts=firsts, lasts=lasts)
                self.assertEqual(other.firsts, (0,) if firsts is None else firsts)
                self.assertEqual(other.lasts, (1,) if lasts is None else lasts)
                self.assertEqual((other.letters, len(other), other.arrows), ("ab", 2, ARROWS))
        self.assertEqual(self.reader.with_ends(), self.reader)
        self.assertEqual(self.reader.with_ends(lasts=(0,)), Reader("ab", 2, (0,), (0,), ARROWS))

    def test_with_wrong_ends(self):
        for ends in NO_SETS:
            if ends is not None:
                expect(self, InvalidOperation, self.reader.with_ends, firsts=ends)
                expect(self, InvalidOperation, self.reader.with_ends, lasts=ends)
                expect(self, InvalidOperation, self.reader.with_ends, firsts=(0,), lasts=ends)
                expect(self, InvalidOperation, self.reader.with_ends, firsts=ends, lasts=ends)
        with self.assertRaises(TypeError):
            self.reader.with_ends((0,), (1,))

    def test_over(self):
        for letters in ("ab", "abc", "abyz"):
            self.assertEqual(self.reader.over(letters), Reader(letters, 2, (0,), (1,), ARROWS))
        self.assertEqual(self.reader.over("abc")[0, "c"], ())
        self.assertEqual(Reader("b", 1, (0,), (), ((0, "b", 0),)).over("abc").letters, "abc")
        for letters in NO_LETTERS:
            expect(self, InvalidLetters, self.reader.over, letters)
        for letters in ("a", "b", "acd", "bcd", "c", "wxyz"):
            expect(self, InvalidOperation, self.reader.over, letters)

    def test_reading_changes_nothing(self):
        self.assertIs("aba" in self.reader, True)
        self.assertEqual((self.reader[0, "a"], self.reader[0, "b"]), ((1,), ()))


if __name__ == "__main__":
    unittest.main()
