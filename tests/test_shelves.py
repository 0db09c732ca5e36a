"""Shelves of lone readers, and what is true there."""

import random
import unittest

from loneguess.count.tallies import Tally
from loneguess.errors import InvalidFormula, InvalidLetters, InvalidName, InvalidNumber, InvalidOperation, InvalidReader
from loneguess.errors import InvalidText, NotLone, TooMany, UnknownName
from loneguess.formula import formulas, shelves as module
from loneguess.formula.formulas import Formula, numbers
from loneguess.formula.shelves import Shelf, counts, is_true, reader_of, tally_of
from loneguess.read.made import both
from loneguess.read.readers import Reader
from tests.brute import texts_up_to
from tests.checks import expect, expect_kept, expect_number
from tests.examples import run_examples
from tests.values import BEFORE, ENDA, EVERY, NOTHING, ODD, SOME, TOO_LONG
from tests.values import full_reader, kinds, kinds_but, sized_loop, some_lone_readers, some_trees

EXAMPLES = """
>>> shelf = Shelf("ab", {"odd": ODD, "ends": ENDA, "before": BEFORE})
>>> odd, ends, before = Formula.of("odd"), Formula.of("ends"), Formula.of("before")
>>> [shelf.names, str(shelf), tally_of(shelf, odd | ends).width, counts(shelf, odd | ends, 4), counts(shelf, ~ends, 4)]
[('before', 'ends', 'odd'), 'shelf of 3 readers over ab', 8, (0, 1, 3, 6), (1, 1, 2, 4)]
>>> [is_true(shelf, odd - ends, "ab"), is_true(shelf, before & ends, "aab"), len(reader_of(shelf, ("ends", "odd"))), tally_of(shelf, odd - odd).parts[0][0]]
[True, False, 4, 0]
>>> Shelf("ab", {"some": SOME})
raises NotLone('aa')
"""
READERS = {"b": ENDA, "a": ODD, "d": EVERY, "c": BEFORE}
FOUR = Shelf("ab", READERS)
A, B, C, D = (Formula.of(name) for name in "abcd")
NO_NAMES = ("", "A", "a b", "ninechars", "a\n", "~" * 4000, None, 1, True, ("a",))
NO_NAME_SETS = (["a"], "a", ("b", "a"), ("a", "a"), ("A",), ("",), ("e",), ("a", "e"), (True,), (None,), (("a",),), ("a", 1),
                {"a": 1}, {}, [], None, True, 1, ("a", "b", "ab"), ODD)


class ShelfTests(unittest.TestCase):
    def test_examples(self):
        run_examples(self, EXAMPLES, module, formulas)

    def test_parts(self):
        self.assertEqual([FOUR.letters, FOUR.names, len(FOUR), list(FOUR)], ["ab", ("a", "b", "c", "d"), 4, ["a", "b", "c", "d"]])
        self.assertEqual([FOUR[name] == READERS[name] for name in "abcd"], [True] * 4)
        self.assertEqual(str(FOUR), "shelf of 4 readers over ab")
        empty = Shelf("xyz", {})
        self.assertEqual([empty.letters, empty.names, len(empty), list(empty), str(empty)],
                         ["xyz", (), 0, [], "shelf of 0 readers over xyz"])
        self.assertEqual(Shelf("ab", {"and": ODD, "all": ENDA}).names, ("all", "and"))

    def test_order_has_no_effect(self):
        other = Shelf("ab", dict(sorted(READERS.items())))
        self.assertEqual(other, FOUR)
        self.assertEqual([other.names, list(other), str(other)], [FOUR.names, list(FOUR), str(FOUR)])
        two = {"b": SOME, "a": SOME.with_ends(firsts=(0, 1))}
        for readers in (two, dict(sorted(two.items()))):
            expect_kept(self, NotLone, "text", "a", Shelf, "ab", readers)

    def test_the_dict_is_not_kept(self):
        readers = dict(READERS)
        shelf = Shelf("ab", readers)
        del readers["a"]
        readers["b"] = ODD
        self.assertEqual(shelf, FOUR)

    def test_wrong_letters(self):
        for letters in [*kinds_but(str), "", "ba", "abcde", "A", "aa", "~" * 4000]:
            expect(self, InvalidLetters, Shelf, letters, {})
            expect(self, InvalidLetters, Shelf, letters, None)

    def test_wrong_dicts(self):
        for readers in [*kinds_but(dict), (), "ab", (("a", ODD),), ["a"]]:
            expect(self, InvalidOperation, Shelf, "ab", readers)
        five = {name: ODD for name in "abcde"}
        for readers in (five, {**five, "A": None}, {1: 1, 2: 2, 3: 3, 4: 4, 5: 5}):
            expect(self, InvalidOperation, Shelf, "ab", readers)

    def test_wrong_names(self):
        for name in NO_NAMES:
            expect(self, InvalidName, Shelf, "ab", {name: ODD})
            expect(self, InvalidName, Shelf, "ab", {"a": None, name: ODD})
            expect(self, InvalidName, Shelf, "ab", {"a": SOME, "b": ODD.over("abc"), name: SOME})

    def test_wrong_readers(self):
        for value in [*kinds_but(Reader), "ab", Tally(((1, ODD),))]:
            expect(self, InvalidReader, Shelf, "ab", {"a": value})
            expect(self, InvalidReader, Shelf, "ab", {"a": SOME, "b": ODD.over("abc"), "c": value})
        expect(self, InvalidOperation, Shelf, "ab", {"a": ODD.over("abc")})
        expect(self, InvalidOperation, Shelf, "ab", {"a": SOME, "b": Reader("a", 1, (), (), ())})
        expect(self, InvalidOperation, Shelf, "abc", {"a": SOME, "b": SOME.over("abc")})

    def test_not_lone(self):
        expect_kept(self, NotLone, "text", "aa", Shelf, "ab", {"a": ODD, "b": SOME})
        expect_kept(self, NotLone, "text", "aa", Shelf, "ab", {"c": full_reader("ab", 2), "b": SOME, "a": ODD})
        expect_kept(self, NotLone, "text", "", Shelf, "ab", {"a": full_reader("ab", 2), "b": SOME})

    def test_items(self):
        for name in "abcd":
            self.assertIs(name in FOUR, True)
        for name in [*kinds(), "e", "A", "", ("a",), ["a"], {"a": 1}]:
            self.assertIs(name in FOUR, False)
            raised = expect(self, UnknownName, lambda value: FOUR[value], name)
            self.assertIs(raised.name, name)

    def test_equal(self):
        self.assertTrue(FOUR == Shelf("ab", READERS))
        self.assertFalse(FOUR != Shelf("ab", READERS))
        others = [FOUR.without_reader("a"), FOUR.with_reader("a", ENDA), Shelf("ab", {}), Shelf("abc", {}),
                  Shelf("ab", {name: READERS[other] for name, other in zip("abcd", "bacd")})]
        for other in [*others, *kinds(), READERS, "abcd", ("a", "b", "c", "d")]:
            self.assertIs(FOUR == other, False)
            self.assertIs(other == FOUR, False)
            self.assertIs(FOUR != other, True)
        self.assertFalse(Shelf("ab", {}) == Shelf("abc", {}))

    def test_iterated_over(self):
        self.assertEqual([tuple(FOUR), sorted(FOUR), [*FOUR], [name for name in FOUR]],
                         [tuple("abcd"), list("abcd"), list("abcd"), list("abcd")])

    def test_parts_cannot_be_assigned(self):
        for name in ("letters", "names"):
            expect(self, AttributeError, setattr, FOUR, name, ())


class ChangeTests(unittest.TestCase):
    def test_with_reader(self):
        three = FOUR.without_reader("b")
        self.assertEqual([three.names, len(FOUR), FOUR.names], [("a", "c", "d"), 4, ("a", "b", "c", "d")])
        self.assertEqual(three.with_reader("b", ENDA), FOUR)
        self.assertEqual(three.with_reader("zz", EVERY).names, ("a", "c", "d", "zz"))
        self.assertEqual(FOUR.with_reader("b", ODD)["b"], ODD)
        self.assertEqual(FOUR["b"], ENDA)
        self.assertEqual(three.names, ("a", "c", "d"))
        self.assertEqual(Shelf("ab", {}).with_reader("and", ODD).names, ("and",))

    def test_with_reader_wrongly(self):
        for name in [*kinds_but(str), *NO_NAMES]:
            expect(self, InvalidName, FOUR.with_reader, name, ODD)
            expect(self, InvalidName, FOUR.with_reader, name, None)
        for value in [*kinds_but(Reader), "ab"]:
            expect(self, InvalidReader, FOUR.with_reader, "a", value)
            expect(self, InvalidReader, FOUR.with_reader, "e", value)
        expect(self, InvalidOperation, FOUR.with_reader, "a", SOME.over("abc"))
        expect(self, InvalidOperation, FOUR.with_reader, "e", ODD)
        expect(self, InvalidOperation, FOUR.with_reader, "e", SOME)
        expect_kept(self, NotLone, "text", "aa", FOUR.with_reader, "a", SOME)
        self.assertEqual(FOUR, Shelf("ab", READERS))

    def test_without_reader(self):
        shelf = FOUR
        for at, name in enumerate("cabd"):
            shelf = shelf.without_reader(name)
            self.assertEqual([len(shelf), name in shelf], [3 - at, False])
        self.assertEqual(shelf, Shelf("ab", {}))
        for name in [*kinds(), "e", "A", "", ("a",), ["a"], {"a": 1}]:
            raised = expect(self, UnknownName, FOUR.without_reader, name)
            self.assertIs(raised.name, name)


class TallyTests(unittest.TestCase):
    def test_reader_of(self):
        self.assertEqual(reader_of(FOUR, ()), EVERY)
        self.assertEqual(reader_of(Shelf("xyz", {}), ()), Reader("xyz", 1, (0,), (0,), ((0, "x", 0), (0, "y", 0), (0, "z", 0))))
        self.assertEqual([reader_of(FOUR, (name,)) == READERS[name] for name in "abcd"], [True] * 4)
        self.assertEqual(reader_of(FOUR, ("a", "c")), both(ODD, BEFORE))
        self.assertEqual(reader_of(FOUR, ("b", "c", "d")), both(both(ENDA, BEFORE), EVERY))
        self.assertEqual(reader_of(FOUR, ("a", "b", "c", "d")), both(both(both(ODD, ENDA), BEFORE), EVERY))

    def test_reader_of_wrongly(self):
        for names in [*NO_NAME_SETS, *[value for value in kinds() if value not in ((), ("a",))]]:
            expect(self, InvalidOperation, reader_of, FOUR, names)
        for value in [*kinds_but(Shelf), READERS]:
            expect(self, InvalidOperation, reader_of, value, ("a",))
        wide = Shelf("a", {"a": sized_loop(8), "b": sized_loop(7), "c": sized_loop(2)})
        self.assertEqual(len(reader_of(wide, ("a", "b"))), 56)
        expect_kept(self, TooMany, "limit", 60, reader_of, wide, ("a", "b", "c"))
        expect(self, InvalidOperation, reader_of, wide, ("a", "b", "c", "d"))

    def test_parts_of_tallies(self):
        for tree in some_trees(70, 120):
            formula = Formula(tree)
            parts = tuple((number, reader_of(FOUR, names)) for names, number in numbers(formula))
            self.assertEqual(tally_of(FOUR, formula).parts, parts or ((0, EVERY),))

    def test_values_of_tallies(self):
        texts = texts_up_to("ab", 4)
        readers = some_lone_readers(71, 30, 2)
        told = random.Random(72)
        for tree in some_trees(73, 60):
            shelf = Shelf("ab", {name: told.choice(readers) for name in "abcd"})
            formula = Formula(tree)
            tally = tally_of(shelf, formula)
            for text in texts:
                true = formula(tuple(name for name in "abcd" if text in shelf[name]))
                self.assertEqual(tally.worth(text), int(true))
                self.assertIs(is_true(shelf, formula, text), true)

    def test_counts(self):
        texts = texts_up_to("ab", 5)
        for tree in some_trees(74, 60):
            formula = Formula(tree)
            true = [text for text in texts if is_true(FOUR, formula, text)]
            wanted = tuple(len([text for text in true if len(text) == size]) for size in range(6))
            self.assertEqual(counts(FOUR, formula, 6), wanted)

    def test_lengths(self):
        self.assertEqual([counts(FOUR, A, 0), counts(FOUR, A, 1), counts(FOUR, ~A, 1)], [(), (0,), (1,)])
        self.assertEqual(counts(FOUR, D, 400), tuple(2 ** size for size in range(400)))
        self.assertEqual(counts(FOUR, ~A, 400)[399], 2 ** 398)
        for size in [None, True, -1, 401, TOO_LONG, "3", (3,), *kinds_but(int)]:
            expect_number(self, size, counts, FOUR, A, size)

    def test_other_readers(self):
        shelf = Shelf("ab", {"none": NOTHING, "a": ODD})
        self.assertEqual(tally_of(shelf, A).parts, ((1, ODD),))
        self.assertIs(is_true(shelf, A, "a" * 4001), True)
        empty = Shelf("ab", {})
        self.assertEqual(counts(empty, Formula(("all",)), 4), (1, 2, 4, 8))
        self.assertEqual(counts(empty, Formula(("none",)), 4), (0, 0, 0, 0))


class ErrorTests(unittest.TestCase):
    calls = (tally_of, lambda shelf, formula: is_true(shelf, formula, None), lambda shelf, formula: is_true(shelf, formula, "a"),
             lambda shelf, formula: counts(shelf, formula, None), lambda shelf, formula: counts(shelf, formula, 4))

    def test_no_shelf_and_no_formula(self):
        for call in self.calls:
            for value in [*kinds_but(Shelf), READERS, "ab"]:
                expect(self, InvalidOperation, call, value, A)
                expect(self, InvalidOperation, call, value, None)
            for value in [*kinds_but(Formula), ("name", "a"), "a"]:
                expect(self, InvalidFormula, call, FOUR, value)

    def test_unknown_names(self):
        two = Shelf("ab", {"b": ODD, "d": ENDA})
        for call in self.calls:
            expect_kept(self, UnknownName, "name", "c", call, two, D & C)
            expect_kept(self, UnknownName, "name", "a", call, two, (C | B) & A)
            expect_kept(self, UnknownName, "name", "c", call, two, (B | ~B) | (C & ~C))
            expect_kept(self, UnknownName, "name", "a", call, Shelf("ab", {}), A)

    def test_texts(self):
        for text in [*kinds_but(str), "c", "abc", "A", " ", "~" * 4000]:
            expect(self, InvalidText, is_true, FOUR, A, text)

    def test_too_many(self):
        wide = Shelf("a", {"a": sized_loop(8), "b": sized_loop(8), "c": sized_loop(60), "d": sized_loop(60)})
        for formula in (A & B, A | B, (C & D) | A):
            expect_kept(self, TooMany, "limit", 60, tally_of, wide, formula)
            expect_kept(self, TooMany, "limit", 60, counts, wide, formula, 4)
            expect_kept(self, InvalidNumber, "value", 401, counts, wide, formula, 401)
            self.assertIs(is_true(wide, formula, "a" * 7), formula(("a", "b")))
        self.assertEqual(tally_of(wide, A & (C | ~C)).width, 8)
        loops = Shelf("a", {"a": sized_loop(3), "b": sized_loop(2), "c": sized_loop(4), "d": sized_loop(2)})
        self.assertEqual(tally_of(loops, A | B | (C & D)).width, 3 + 2 + 6 + 8 + 24 + 16 + 48)
        expect_kept(self, TooMany, "limit", 200, tally_of, Shelf("a", {**dict(zip("abd", [sized_loop(2)] * 3)), "c": sized_loop(7)}),
                    A | B | (C | D))
        expect_kept(self, TooMany, "limit", 200, counts, Shelf("a", {**dict(zip("abd", [sized_loop(2)] * 3)), "c": sized_loop(7)}),
                    A | B | (C | D), 400)
        expect_kept(self, TooMany, "limit", 60, tally_of, Shelf("a", {**dict(zip("abd", [sized_loop(2)] * 3)), "c": sized_loop(8)}),
                    A | B | (C | D))

    def test_arguments_stay(self):
        shelf = Shelf("ab", READERS)
        for _ in range(2):
            self.assertEqual([counts(shelf, A | B, 4), is_true(shelf, A - B, "ab"), reader_of(shelf, ("a",))],
                             [(0, 1, 3, 6), True, ODD])
        self.assertEqual(shelf, FOUR)


if __name__ == "__main__":
    unittest.main()
