"""Formulas compared on a shelf."""

import random
import unittest

from loneguess.count.spaces import is_hollow
from loneguess.count.tallies import Tally, product
from loneguess.errors import InvalidFormula, InvalidOperation, InvalidReader, TooMany, UnknownName
from loneguess.formula import compare as module
from loneguess.formula import formulas, shelves
from loneguess.formula.compare import are_equal, does_fit, first_gap, first_miss, first_true, implied_paper, is_implied
from loneguess.formula.compare import is_implied_paper, is_never
from loneguess.formula.formulas import Formula, numbers
from loneguess.formula.shelves import Shelf, reader_of, tally_of
from loneguess.read.made import beside
from loneguess.read.readers import Reader
from tests.brute import first_of, greatest_space, is_some_space, texts_up_to
from tests.checks import expect, expect_kept
from tests.examples import run_examples
from tests.values import BEFORE, ENDA, EVERY, LONG, NOTHING, ODD, SOME, TOO_LONG
from tests.values import full_reader, kinds, kinds_but, mixed, sized_loop, some_lone_readers, some_readers, some_trees

EXAMPLES = """
>>> shelf = Shelf("ab", {"odd": ODD, "ends": ENDA, "before": BEFORE})
>>> odd, ends, before = Formula.of("odd"), Formula.of("ends"), Formula.of("before")
>>> [is_implied(shelf, ends & before, ends), is_implied(shelf, ends, odd), first_gap(shelf, ends, odd), are_equal(shelf, ends, ~~ends), is_never(shelf, ends - ends)]
[True, False, 'aa', True, True]
>>> [first_true(shelf, odd & ends & before), implied_paper(shelf, ends, odd)[0], is_implied_paper(shelf, ends & before, ends, ("space", ((1,),))), is_implied_paper(shelf, ends, odd, ("text", "baa"))]
['aaa', 'text', True, True]
>>> [does_fit(shelf, SOME, odd | ~odd), first_miss(shelf, SOME, odd | ends), first_miss(shelf, ENDA, ends)]
[True, 'aab', None]
"""
FOUR = Shelf("ab", {"a": ODD, "b": ENDA, "c": BEFORE, "d": EVERY})
A, B, C, D = (Formula.of(name) for name in "abcd")
ALL, NONE = Formula(("all",)), Formula(("none",))


def some_cases(seed, many, size=2):
    """Shelves with pairs of formulas."""
    told = random.Random(seed)
    readers = [*some_lone_readers(seed, 30, size), ODD, ENDA, EVERY, NOTHING]
    trees = some_trees(seed, 2 * many)
    return [(Shelf("ab", {name: told.choice(readers) for name in "abcd"}), Formula(one), Formula(other))
            for one, other in zip(trees[::2], trees[1::2])]


CASES = [*some_cases(80, 200), (FOUR, A, B), (FOUR, B & C, B), (FOUR, ALL, D), (FOUR, A, ~~A), (FOUR, ALL, A | B)]


def first_by_sets(shelf, is_wanted, *more):
    """The first text at which a set of names, and what further readers read, are wanted."""
    readers = [shelf[name] for name in shelf.names]

    def asked(*reads):
        names = tuple(name for name, read in zip(shelf.names, reads) if read)
        return is_wanted(names, *reads[len(readers):])
    return first_of((*readers, *more, EVERY), asked)


def gap_tally(shelf, one, other):
    """The tally of "one and not other" as the document tells it."""
    pairs = numbers(Formula(("and", one.tree, ("not", other.tree))))
    return Tally(tuple((number, reader_of(shelf, names)) for names, number in pairs) or ((0, reader_of(shelf, ())),))


class CompareTests(unittest.TestCase):
    def test_examples(self):
        run_examples(self, EXAMPLES, module, shelves, formulas)

    def test_against_sets_of_states(self):
        found = []
        for shelf, one, other in CASES:
            gap = first_by_sets(shelf, lambda names, _: one(names) and not other(names))
            back = first_by_sets(shelf, lambda names, _: other(names) and not one(names))
            true = first_by_sets(shelf, lambda names, _: one(names))
            self.assertEqual(first_gap(shelf, one, other), gap)
            self.assertIs(is_implied(shelf, one, other), gap is None)
            self.assertIs(are_equal(shelf, one, other), gap is None and back is None)
            self.assertIs(are_equal(shelf, other, one), gap is None and back is None)
            self.assertEqual(first_true(shelf, one), true)
            self.assertIs(is_never(shelf, one), true is None)
            found.append((gap is None, back is None))
        for kind in ((True, True), (True, False), (False, True), (False, False)):
            self.assertGreater(found.count(kind), 5)

    def test_fit_and_miss(self):
        told = random.Random(81)
        readers = [*some_readers(82, 60, 2), SOME, beside(ODD, ENDA), full_reader("ab", 2), EVERY, NOTHING]
        found = []
        for shelf, one, other in CASES:
            reader, formula = told.choice(readers), told.choice((one, other, one | other))
            miss = first_by_sets(shelf, lambda names, reads, _: reads and not formula(names), reader)
            self.assertEqual(first_miss(shelf, reader, formula), miss)
            self.assertIs(does_fit(shelf, reader, formula), miss is None)
            found.append(miss)
        self.assertGreater(found.count(None), 20)
        self.assertGreater(len([miss for miss in found if miss]), 5)

    def test_miss_by_the_product(self):
        for shelf, formula, _ in CASES:
            tally = product(Tally(((1, SOME),)), tally_of(shelf, ~formula))
            self.assertIs(does_fit(shelf, SOME, formula), is_hollow(tally))

    def test_formulas_that_are_eight_tuples_deep(self):
        for shelf, one, other in CASES[:40]:
            for formula in (one, other):
                deep = formula
                while len(str(deep)) < 4000:
                    try:
                        deep = deep | NONE
                    except InvalidFormula:
                        break
                expect(self, InvalidFormula, lambda: ~deep)
                self.assertIs(are_equal(shelf, deep, formula), True)
                self.assertEqual(first_gap(shelf, deep, other), first_gap(shelf, formula, other))
                self.assertEqual(first_miss(shelf, SOME, deep), first_miss(shelf, SOME, formula))
                self.assertIs(is_implied_paper(shelf, deep, formula, implied_paper(shelf, deep, formula)), True)
                self.assertEqual(is_never(shelf, deep), is_never(shelf, formula))

    def test_names_that_do_not_matter(self):
        wide = Shelf("a", {"a": sized_loop(60), "b": sized_loop(60)})
        self.assertIs(is_implied(wide, A & B, A), True)
        self.assertIs(are_equal(wide, A | (B & ~B), A), True)
        self.assertEqual(first_gap(wide, ALL, A), "")
        self.assertIs(does_fit(wide, Reader("a", 1, (0,), (0,), ()), ~A | (B & ~B)), True)

    def test_long_first_texts(self):
        loops = Shelf("a", {"a": sized_loop(7).with_ends(lasts=(0,)), "b": sized_loop(8).with_ends(lasts=(0,)),
                            "c": sized_loop(1).with_ends(lasts=())})
        self.assertEqual(first_gap(loops, A & B, ~Formula.of("c") & NONE), "")
        late = Shelf("a", {"a": sized_loop(7), "b": sized_loop(8)})
        self.assertEqual(first_true(late, A & B), "a" * 55)
        self.assertEqual(implied_paper(late, A & B, B - A), ("text", "a" * 55))
        self.assertEqual(first_miss(late, sized_loop(7), ~B), "a" * 55)


class PaperTests(unittest.TestCase):
    def test_papers(self):
        for shelf, one, other in CASES:
            paper = implied_paper(shelf, one, other)
            self.assertIs(is_implied_paper(shelf, one, other, paper), True)
            self.assertEqual(len(paper), 2)
            if is_implied(shelf, one, other):
                self.assertEqual(paper[0], "space")
                self.assertTrue(is_some_space(gap_tally(shelf, one, other).parts, paper[1]))
            else:
                self.assertEqual(paper[0], "text")
                self.assertLessEqual(len(paper[1]), 400)

    def test_any_text(self):
        for shelf, one, other in CASES[::5]:
            for text in texts_up_to("ab", 4):
                true = tuple(name for name in shelf.names if text in shelf[name])
                self.assertIs(is_implied_paper(shelf, one, other, ("text", text)), one(true) and not other(true))
        self.assertIs(is_implied_paper(FOUR, B, A, ("text", "a" * 4000)), True)
        self.assertIs(is_implied_paper(FOUR, B, A, ("text", "a" * 3999)), False)
        self.assertIs(is_implied_paper(FOUR, B, A, ("text", "a" * 4002)), False)
        for text in ("c", "aac", "A", None, True, 1, 2, ("a",), ["aa"], {"a": 1}, ODD, "~" * 4000):
            self.assertIs(is_implied_paper(FOUR, B, A, ("text", text)), False)

    def test_any_space(self):
        told = random.Random(83)
        for shelf, one, other in [case for case in CASES if is_implied(*case)][::3]:
            parts = gap_tally(shelf, one, other).parts
            least, most = implied_paper(shelf, one, other)[1], greatest_space(parts)
            for rows in (least, mixed(least, told), mixed(most, told), mixed(most, told, 10 ** 30)):
                self.assertIs(is_implied_paper(shelf, one, other, ("space", tuple(rows))), True)
            nothing = (0,) * sum(len(reader) for _, reader in parts)
            for rows in (least[1:], least[:-1], (*least, *least[:1]), (*least, nothing)):
                self.assertIs(is_implied_paper(shelf, one, other, ("space", rows)), is_some_space(parts, rows))

    def test_no_space_if_there_is_a_gap(self):
        for shelf, one, other in [case for case in CASES if not is_implied(*case)][::5]:
            tally = gap_tally(shelf, one, other)
            for rows in ((), (tally.first,), (tally.first, tally.step(tally.first))):
                self.assertIs(is_implied_paper(shelf, one, other, ("space", rows)), False)

    def test_wrong_papers(self):
        self.assertIs(is_implied_paper(FOUR, B & C, B, ("space", ((LONG,),))), True)
        for value in (((TOO_LONG,),), ((True,),), ((0,),), ((1,), (2,)), (), [(1,)], ([1],), ((1, 0),), (1,), None, 3):
            self.assertIs(is_implied_paper(FOUR, B & C, B, ("space", value)), False)
        rows = ((1,),)
        for value in [*kinds(), ("space",), ("space", rows, ()), ("text", "aa", 3), ["space", rows], ["text", "aa"],
                      ("spaces", rows), (None, rows), (ODD, rows), ("length", 2), ("text",), rows, (), "aa"]:
            self.assertIs(is_implied_paper(FOUR, B & C, B, value), False)
            self.assertIs(is_implied_paper(FOUR, B, A, value), False)


# Calls with a shelf and two formulas, and with a shelf and one.
TWO = (is_implied, are_equal, first_gap, implied_paper, lambda shelf, one, other: is_implied_paper(shelf, one, other, None),
       lambda shelf, one, other: is_implied_paper(shelf, one, other, ("text", "aa")))
ONE = (is_never, first_true, lambda shelf, formula: does_fit(shelf, ODD, formula),
       lambda shelf, formula: first_miss(shelf, ODD, formula))


class ErrorTests(unittest.TestCase):
    def test_no_shelf(self):
        for value in [*kinds_but(Shelf), {"a": ODD}, "ab"]:
            for call in TWO:
                expect(self, InvalidOperation, call, value, A, B)
                expect(self, InvalidOperation, call, value, None, None)
            for call in ONE:
                expect(self, InvalidOperation, call, value, A)
                expect(self, InvalidOperation, call, value, None)
            expect(self, InvalidOperation, does_fit, value, None, None)

    def test_no_formula(self):
        for value in [*kinds_but(Formula), ("name", "a"), "a"]:
            for call in TWO:
                expect(self, InvalidFormula, call, FOUR, value, A)
                expect(self, InvalidFormula, call, FOUR, A, value)
                expect(self, InvalidFormula, call, FOUR, value, Formula.of("zz"))
                expect_kept(self, UnknownName, "name", "zz", call, FOUR, Formula.of("zz"), value)
            for call in ONE:
                expect(self, InvalidFormula, call, FOUR, value)

    def test_unknown_names(self):
        two = Shelf("ab", {"b": ODD, "d": ENDA})
        for call in TWO:
            expect_kept(self, UnknownName, "name", "a", call, two, D & (C | A), A)
            expect_kept(self, UnknownName, "name", "c", call, two, D & C, A)
            expect_kept(self, UnknownName, "name", "c", call, two, D, C & B)
            expect_kept(self, UnknownName, "name", "a", call, two, NONE, NONE & A)
        for call in ONE:
            expect_kept(self, UnknownName, "name", "a", call, two, (C | A) & D)

    def test_too_many(self):
        wide = Shelf("a", {"a": sized_loop(8), "b": sized_loop(8), "c": sized_loop(2), "d": sized_loop(1)})
        for call in TWO:
            expect_kept(self, TooMany, "limit", 60, call, wide, A, B)
            expect_kept(self, TooMany, "limit", 60, call, wide, A & B, C)
        expect_kept(self, TooMany, "limit", 60, are_equal, wide, NONE, A & B)
        for call in ONE[:2]:
            expect_kept(self, TooMany, "limit", 60, call, wide, A & B)
        self.assertIs(is_implied(wide, NONE, A & B), True)

    def test_too_wide(self):
        wide = Shelf("a", {**{name: sized_loop(2) for name in "abd"}, "c": sized_loop(7)})
        for call in TWO:
            expect_kept(self, TooMany, "limit", 200, call, wide, A | B | (C | D), NONE)
        for call in ONE[:2]:
            expect_kept(self, TooMany, "limit", 200, call, wide, A | B | (C | D))
        expect_kept(self, TooMany, "limit", 200, are_equal, wide, NONE, A | B | (C | D))

    def test_too_wide_for_a_paper(self):
        loops = Shelf("a", {"a": sized_loop(30), "b": sized_loop(1), "c": sized_loop(31)})
        self.assertEqual(implied_paper(loops, A, B)[0], "space")
        expect_kept(self, TooMany, "limit", 60, implied_paper, loops, C, B)
        self.assertIs(is_implied(loops, C, B), True)
        rows = [tuple(int(state == at) for state in range(31)) * 2 for at in range(31)]
        self.assertIs(is_implied_paper(loops, C, B, ("space", tuple(rows))), True)
        self.assertIs(is_implied_paper(loops, C, B, ("space", tuple(rows[1:]))), False)
        self.assertIs(is_implied_paper(loops, B, C, ("text", "a" * 30)), False)
        self.assertIs(is_implied_paper(loops, B, C, ("text", "a" * 31)), True)

    def test_readers_that_should_fit(self):
        for call in (does_fit, first_miss):
            for value in [*kinds_but(Reader), "ab"]:
                expect(self, InvalidReader, call, FOUR, value, A)
                expect(self, InvalidReader, call, FOUR, value, None)
            expect(self, InvalidFormula, call, FOUR, ODD.over("abc"), None)
            expect_kept(self, UnknownName, "name", "zz", call, FOUR, ODD.over("abc"), Formula.of("zz"))
            expect(self, InvalidOperation, call, FOUR, ODD.over("abc"), A)
            expect(self, InvalidOperation, call, FOUR, full_reader("abc", 60), A)
            expect(self, InvalidOperation, call, Shelf("a", {"a": sized_loop(8), "b": sized_loop(8)}), ODD, A & B)
            expect_kept(self, TooMany, "limit", 60, call, FOUR, full_reader("ab", 31), A)
            self.assertEqual(call(FOUR, full_reader("ab", 60), NONE | ALL), call(FOUR, NOTHING, ALL))
            wide = Shelf("a", {**{name: sized_loop(2) for name in "abd"}, "c": sized_loop(7)})
            one, two = sized_loop(1), sized_loop(2)
            expect_kept(self, TooMany, "limit", 200, call, wide, one, A | B | (C | D))
            expect_kept(self, TooMany, "limit", 60, call, wide, two, A | B | (C | D))
            less = Shelf("a", {"a": two, "b": two, "c": sized_loop(7), "d": one})
            self.assertEqual(tally_of(less, A | B | (C | D)).width, 143)
            expect_kept(self, TooMany, "limit", 200, call, less, two, A | B | (C | D))

    def test_arguments_stay(self):
        for _ in range(2):
            self.assertEqual([first_gap(FOUR, B, A), implied_paper(FOUR, B, A), first_miss(FOUR, SOME, A | B)],
                             ["aa", ("text", "aa"), "aab"])
        self.assertEqual(FOUR, Shelf("ab", {"a": ODD, "b": ENDA, "c": BEFORE, "d": EVERY}))


if __name__ == "__main__":
    unittest.main()
