"""Texts by numbers."""

import random
import unittest
from itertools import islice

from loneguess.errors import InvalidFormula, InvalidNumber, InvalidOperation, InvalidReader, InvalidText, NotLone, TooMany, UnknownName
from loneguess.formula import formulas, shelves
from loneguess.formula.formulas import Formula
from loneguess.formula.shelves import Shelf
from loneguess.listing import places as module
from loneguess.listing.places import nth, nth_true, place, texts_of, true_place, true_texts
from loneguess.read.made import turned
from loneguess.read.readers import Reader
from tests.brute import reads, texts_up_to
from tests.checks import expect, expect_kept, expect_number
from tests.examples import run_examples
from tests.values import BEFORE, ENDA, EVERY, LONG, NOTHING, ODD, SOME, TOO_LONG
from tests.values import full_reader, kinds_but, sized_loop, some_lone_readers, some_trees

EXAMPLES = """
>>> few = Reader.of_texts("ab", ("ba", "", "b"))
>>> shelf = Shelf("ab", {"odd": ODD, "ends": ENDA, "before": BEFORE})
>>> odd, ends, before = Formula.of("odd"), Formula.of("ends"), Formula.of("before")
>>> [list(texts_of(BEFORE, 3)), nth(ODD, 3), place(ODD, "bba"), nth(few, 2), nth(few, 5), nth(EVERY, 2 ** 100) == "a" * 99 + "b"]
[['aaa', 'aab', 'baa', 'bab'], 'aaa', 6, 'ba', None, True]
>>> [nth_true(shelf, odd - ends, 1), true_place(shelf, ~odd, "bb"), list(true_texts(shelf, ends - before, 2)), nth_true(shelf, odd - odd, 0)]
['abb', 3, ['ba'], None]
>>> nth(EVERY, 10 ** 130)
raises TooMany(400)
"""
FEW = Reader.of_texts("ab", ("ba", "", "b"))
MORE = Reader.of_texts("ab", ("abba", "b", "bbab", "a", "abab"))
# Behind its texts go states from which no last one is come to, with many ways, and states that are come to from nowhere.
USELESS = Reader("ab", 4, (0,), (1,), ((0, "a", 0), (0, "a", 2), (0, "b", 1), (2, "a", 2), (2, "b", 2), (3, "a", 1), (3, "a", 3)))
LONE = [*some_lone_readers(100, 40), ODD, ENDA, BEFORE, EVERY, NOTHING, FEW, MORE, USELESS, turned(USELESS),
        SOME.with_ends(firsts=()), SOME.with_ends(lasts=()), Reader.of_texts("ab", ("",))]
OTHERS = [("a", some_lone_readers(101, 10, 4, "a")), ("abc", some_lone_readers(102, 10, 3, "abc"))]
TEXTS = texts_up_to("ab", 6)
A, B, C, D = (Formula.of(name) for name in "abcd")
ALL, NONE = Formula(("all",)), Formula(("none",))
FOUR = Shelf("ab", {"a": ODD, "b": ENDA, "c": BEFORE, "d": FEW})


def every(letters):
    """The reader of all texts."""
    return Reader(letters, 1, (0,), (0,), tuple((0, letter, 0) for letter in letters))


def index_by_letters(letters, text):
    """The index of a text among all of them, as numbers are read."""
    found = 0
    for letter in text:
        found = found * len(letters) + letters.index(letter) + 1
    return found


def some_cases(seed, many):
    """Shelves of one to four readers, with formulas; with a list of what is true at short texts."""
    told = random.Random(seed)
    readers = [*some_lone_readers(seed, 30, 2), ODD, ENDA, EVERY, NOTHING, FEW]
    found = []
    for tree in some_trees(seed, many):
        formula = Formula(tree)
        names = sorted({*formula.names, told.choice("abcd")})
        found.append((Shelf("ab", {name: told.choice(readers) for name in names}), formula))
    return found


CASES = [*some_cases(103, 150), (FOUR, D & A), (FOUR, ALL), (FOUR, NONE), (FOUR, A - A), (FOUR, D), (FOUR, D & (B | A)),
         (Shelf("ab", {"a": FEW}), A), (Shelf("ab", {"a": FEW}), ~A), (Shelf("ab", {}), ALL), (Shelf("ab", {}), NONE)]


def true_up_to(shelf, formula, texts):
    """Those of some texts at which a formula is true."""
    return [text for text in texts if formula(tuple(name for name in shelf.names if reads(shelf[name], text)))]


class ReaderTests(unittest.TestCase):
    def test_examples(self):
        run_examples(self, EXAMPLES, module, formulas, shelves)

    def test_against_lists(self):
        for letters, readers in [("ab", LONE), *OTHERS]:
            texts = TEXTS if letters == "ab" else texts_up_to(letters, 4)
            most = len(texts[-1])
            for reader in readers:
                wanted = [text for text in texts if reads(reader, text)]
                self.assertEqual([text for size in range(most + 1) for text in texts_of(reader, size)], wanted)
                self.assertEqual([nth(reader, at) for at in range(len(wanted))], wanted)
                self.assertEqual([place(reader, text) for text in wanted], list(range(len(wanted))))

    def test_finitely_many(self):
        for reader, many in ((FEW, 3), (MORE, 5), (NOTHING, 0), (Reader.of_texts("ab", ("",)), 1), (SOME.with_ends(lasts=()), 0),
                             (sized_loop(60).without_arrow(59, "a", 0), 1)):
            for at in (many, many + 1, 10 ** 9, LONG):
                self.assertIs(nth(reader, at), None)
            if many:
                self.assertIsInstance(nth(reader, many - 1), str)
            self.assertEqual([text for size in range(61) for text in texts_of(reader, size)], [nth(reader, at) for at in range(many)])
        # A reader with many texts that are all short, and with states for long ones that are not on any way.
        wide = Reader("ab", 8, (0,), (6,), tuple(sorted([(at, letter, at + 1) for at in range(6) for letter in "ab"]
                                                        + [(7, "a", 7), (7, "a", 6), (0, "b", 7)]))).without_arrow(0, "b", 7)
        self.assertEqual([nth(wide, 63), nth(wide, 64), nth(wide, LONG)], ["bbbbbb", None, None])

    def test_long_indices(self):
        told = random.Random(104)
        for letters in ("ab", "abc", "abcd"):
            for digits in (1, 5, 20, 60, 100, 119):
                for index in (10 ** digits - 1, told.randrange(10 ** digits), 10 ** digits):
                    text = nth(every(letters), index)
                    self.assertEqual(index_by_letters(letters, text), index)
                    self.assertEqual(place(every(letters), text), index)
        for index in (LONG, 10 ** 199, told.randrange(10 ** 200)):
            text = nth(every("abcd"), index)
            self.assertEqual([index_by_letters("abcd", text), place(every("abcd"), text)], [index, index])
        for reader in (ODD, ENDA, BEFORE, turned(BEFORE)):
            for index in (10 ** 30, 10 ** 100, told.randrange(10 ** 110)):
                text = nth(reader, index)
                self.assertEqual([text in reader, place(reader, text)], [True, index])

    def test_just_four_hundred_letters(self):
        one = every("a")
        self.assertEqual([nth(one, 400), place(one, "a" * 400)], ["a" * 400, 400])
        expect_kept(self, TooMany, "limit", 400, nth, one, 401)
        last = 2 ** 401 - 2
        self.assertEqual([nth(EVERY, last), nth(EVERY, last - 1)], ["b" * 400, "b" * 399 + "a"])
        self.assertEqual(place(EVERY, "b" * 400), last)
        for index in (last + 1, last + 2, LONG):
            expect_kept(self, TooMany, "limit", 400, nth, EVERY, index)
        self.assertEqual(place(EVERY, "a" * 401), last + 1)
        self.assertEqual(place(EVERY, "b" * 401), 2 ** 402 - 2)
        self.assertEqual(place(every("a"), "a" * 4000), 4000)
        # Of two texts that differ in their last letters, one has an odd number of "a".
        self.assertEqual(place(ODD, "ab" * 999 + "bb"), (index_by_letters("ab", "ab" * 999 + "bb") - 2) // 2)
        # One text in each sixtieth length: the seventh one has 419 letters.
        loop = sized_loop(60)
        self.assertEqual([len(nth(loop, at)) for at in range(6)], [59 + 60 * at for at in range(6)])
        self.assertEqual(place(loop, "a" * 419), 6)
        for index in (6, 7, LONG):
            expect_kept(self, TooMany, "limit", 400, nth, loop, index)

    def test_lengths(self):
        self.assertEqual([list(texts_of(EVERY, 0)), list(texts_of(ODD, 0)), list(texts_of(NOTHING, 400))], [[""], [], []])
        self.assertEqual(list(islice(texts_of(EVERY, 400), 3)), ["a" * 400, "a" * 399 + "b", "a" * 398 + "ba"])
        self.assertEqual(next(texts_of(ODD, 400)), "a" * 399 + "b")
        self.assertEqual(list(texts_of(every("a"), 400)), ["a" * 400])
        for size in (401, 10 ** 199, TOO_LONG, -1, True, None, "3"):
            raised = expect(self, InvalidNumber, lambda value: next(texts_of(EVERY, value)), size)
            self.assertIs(raised.value, size)

    def test_great_readers(self):
        told = random.Random(105)
        arrows = tuple((state, letter, told.randrange(60)) for state in range(60) for letter in "abcd")
        reader = Reader("abcd", 60, (7,), tuple(range(0, 60, 3)), arrows)
        for one in (reader, turned(reader).with_ends(firsts=(3,))):
            for index in (0, 1, 10 ** 50, 10 ** 199):
                text = nth(one, index)
                self.assertEqual([text in one, place(one, text)], [True, index])


class FormulaTests(unittest.TestCase):
    def test_against_lists(self):
        texts = texts_up_to("ab", 5)
        for shelf, formula in CASES:
            wanted = true_up_to(shelf, formula, texts)
            self.assertEqual([text for size in range(6) for text in true_texts(shelf, formula, size)], wanted)
            self.assertEqual([nth_true(shelf, formula, at) for at in range(len(wanted))], wanted)
            self.assertEqual([true_place(shelf, formula, text) for text in wanted], list(range(len(wanted))))

    def test_finitely_many(self):
        kinds = {"none": 0, "few": 0, "more": 0}
        for shelf, formula in CASES:
            many = len(true_up_to(shelf, formula, TEXTS))
            try:
                found = nth_true(shelf, formula, LONG)
            except TooMany as raised:
                self.assertEqual(raised.limit, 400)
                self.assertIsInstance(nth_true(shelf, formula, 100), str)
                kinds["more"] += 1
            else:
                # All of them are short: no reader of the shelf has more than four states.
                self.assertIs(found, None)
                self.assertIs(nth_true(shelf, formula, many), None)
                kinds["few" if many else "none"] += 1
        self.assertTrue(all(many > 5 for many in kinds.values()), kinds)

    def test_all_texts(self):
        for shelf, formula in ((FOUR, ALL), (FOUR, A | ~A), (Shelf("ab", {}), ALL), (Shelf("ab", {"a": NOTHING}), ~A)):
            self.assertEqual([nth_true(shelf, formula, at) for at in (0, 1, 2, 2 ** 401 - 2)], ["", "a", "b", "b" * 400])
            expect_kept(self, TooMany, "limit", 400, nth_true, shelf, formula, 2 ** 401 - 1)
            self.assertEqual(true_place(shelf, formula, "b" * 401), 2 ** 402 - 2)

    def test_long_indices(self):
        told = random.Random(106)
        for formula in (A & B, A | B, (A & B) | (C & ~D), ~(A | B | C), D | C):
            for index in (10 ** 20, 10 ** 60, 10 ** 110, told.randrange(10 ** 115)):
                text = nth_true(FOUR, formula, index)
                self.assertEqual([true_up_to(FOUR, formula, [text]), true_place(FOUR, formula, text)], [[text], index])

    def test_long_texts(self):
        one = Shelf("a", {"a": sized_loop(7), "b": sized_loop(8)})
        self.assertEqual([len(nth_true(one, A & B, at)) for at in range(7)], [55 + 56 * at for at in range(7)])
        for index in (7, 8, LONG):
            expect_kept(self, TooMany, "limit", 400, nth_true, one, A & B, index)
        self.assertEqual(true_place(one, A & B, "a" * (55 + 56 * 7)), 7)
        self.assertEqual([list(true_texts(one, A & B, size)) for size in (54, 55, 391)], [[], ["a" * 55], ["a" * 391]])
        self.assertEqual(next(true_texts(FOUR, A - B, 400)), "a" * 399 + "b")
        self.assertEqual([list(true_texts(FOUR, D, size)) for size in (0, 1, 2, 400)], [[""], ["b"], ["ba"], []])

    def test_just_at_the_width(self):
        # Finitely many texts that are as long as can be beside those of a loop, which are taken away.
        line = Reader("a", 49, (0,), (48,), tuple((at, "a", at + 1) for at in range(48)))
        shelf = Shelf("a", {"a": line, "b": every("a")})
        self.assertEqual([nth_true(shelf, A, 0), nth_true(shelf, A, 1), nth_true(shelf, A & B, 0)], ["a" * 48, None, "a" * 48])
        self.assertEqual([len(nth_true(shelf, B - A, at)) for at in (47, 48, 399)], [47, 49, 400])
        expect_kept(self, TooMany, "limit", 400, nth_true, shelf, B - A, 400)
        wide = Shelf("a", {"a": sized_loop(3), "b": sized_loop(2), "c": sized_loop(4), "d": sized_loop(2)})
        formula = A | B | (C & D)
        lengths = [size for size in range(401) if size % 3 == 2 or size % 2 == 1]
        self.assertEqual([len(nth_true(wide, formula, at)) for at in (0, 1, 2, len(lengths) - 1)], [1, 2, 3, lengths[-1]])
        expect_kept(self, TooMany, "limit", 400, nth_true, wide, formula, len(lengths))


class ErrorTests(unittest.TestCase):
    calls = (lambda reader, value: next(texts_of(reader, value)), nth, place)
    true_calls = (lambda shelf, formula, value: next(true_texts(shelf, formula, value)), nth_true, true_place)

    def test_no_readers(self):
        for value in kinds_but(Reader):
            for call in self.calls:
                expect(self, InvalidReader, call, value, 3)
                expect(self, InvalidReader, call, value, None)

    def test_indices(self):
        for index in [*kinds_but(int), True, False, -1, TOO_LONG, -LONG, 10 ** 299]:
            expect_number(self, index, nth, ODD, index)
            expect_number(self, index, nth, SOME, index)
            expect_number(self, index, nth_true, FOUR, A, index)
        for size in [*kinds_but(int), True, False, -1, 401, TOO_LONG]:
            for call in (self.calls[0], lambda reader, value: self.true_calls[0](FOUR, A, value)):
                expect_number(self, size, call, SOME, size)

    def test_texts(self):
        for text in [*kinds_but(str), "c", "A", "ab ", "~" * 4000]:
            expect(self, InvalidText, place, ODD, text)
            expect(self, InvalidText, place, SOME, text)
            expect(self, InvalidText, true_place, FOUR, A, text)
        for text in ("", "b", "aa", "b" * 4000):
            expect(self, InvalidOperation, place, ODD, text)
            expect(self, InvalidOperation, true_place, FOUR, A, text)
        expect(self, InvalidOperation, place, NOTHING, "")

    def test_not_lone(self):
        for call, value in zip(self.calls, (3, 3, "")):
            expect_kept(self, NotLone, "text", "aa", call, SOME, value)
            expect_kept(self, NotLone, "text", "", call, full_reader("ab", 60), value)
        expect_kept(self, NotLone, "text", "aa", nth, SOME, LONG)

    def test_shelves_and_formulas(self):
        for call in self.true_calls:
            for value in [*kinds_but(Shelf), {"a": ODD}]:
                expect(self, InvalidOperation, call, value, A, None)
                expect(self, InvalidOperation, call, value, None, None)
            for value in [*kinds_but(Formula), "a", ("name", "a")]:
                expect(self, InvalidFormula, call, FOUR, value, None)
            expect_kept(self, UnknownName, "name", "e", call, FOUR, Formula.of("e") & Formula.of("f"), None)
            expect_kept(self, UnknownName, "name", "aa", call, FOUR, Formula.of("e") & Formula.of("aa"), -1)

    def test_too_many(self):
        wide = Shelf("a", {"a": sized_loop(8), "b": sized_loop(8), "c": sized_loop(2), "d": sized_loop(1)})
        for call, value, wrong in zip(self.true_calls, (3, 3, "aa"), (-1, -1, "b")):
            expect_kept(self, TooMany, "limit", 60, call, wide, A & B, value)
            expect(self, InvalidText if wrong == "b" else InvalidNumber, call, wide, A & B, wrong)
        expect_kept(self, TooMany, "limit", 60, nth_true, wide, A & B, LONG)
        broad = Shelf("a", {**{name: sized_loop(2) for name in "abd"}, "c": sized_loop(7)})
        for call, value in zip(self.true_calls, (3, 3, "aa")):
            expect_kept(self, TooMany, "limit", 200, call, broad, A | B | (C | D), value)

    def test_widths_up_to_two_hundred(self):
        shelf = Shelf("a", {"a": sized_loop(2), "b": sized_loop(2), "c": sized_loop(6), "d": sized_loop(2)})
        formula = A | B | (C | D)
        # All sets of names count, but the empty one: 3 * 3 * 3 * 7 - 1 states.
        self.assertEqual(shelves.tally_of(shelf, formula).width, 188)
        self.assertEqual([len(nth_true(shelf, formula, at)) for at in (0, 1, 199)], [1, 3, 399])
        expect_kept(self, TooMany, "limit", 400, nth_true, shelf, formula, 200)
        self.assertEqual([len(nth_true(shelf, ~formula, at)) for at in (0, 1, 200)], [0, 2, 400])

    def test_generators_raise_at_their_first_elements(self):
        for started, error in ((texts_of(None, None), InvalidReader), (texts_of(SOME, 401), InvalidNumber), (texts_of(SOME, 3), NotLone),
                               (true_texts(None, None, None), InvalidOperation), (true_texts(FOUR, None, -1), InvalidFormula),
                               (true_texts(FOUR, Formula.of("e"), -1), UnknownName), (true_texts(FOUR, A, -1), InvalidNumber)):
            expect(self, error, next, started)


if __name__ == "__main__":
    unittest.main()
