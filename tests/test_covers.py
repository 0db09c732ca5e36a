"""Covers."""

import random
import unittest
from itertools import combinations
from math import prod

from loneguess.count.tallies import Tally, product
from loneguess.errors import InvalidOperation, InvalidReader, TooMany
from loneguess.formula import formulas, shelves
from loneguess.formula.shelves import Shelf, reader_of
from loneguess.judge import covers as module
from loneguess.judge.covers import cover_paper, is_cover, is_cover_paper, is_split, least_covers, open_sets, uncovered
from loneguess.read.made import beside, both, turned
from loneguess.read.readers import Reader
from tests.brute import first_of, greatest_space, is_some_space, reads, texts_up_to
from tests.checks import expect, expect_kept
from tests.examples import run_examples
from tests.values import BEFORE, ENDA, EVERY, LONG, NOTHING, ODD, SOME, TOO_LONG
from tests.values import full_reader, kinds, kinds_but, mixed, sized_loop, some_lone_readers, some_readers

EXAMPLES = """
>>> shelf = Shelf("ab", {"odd": ODD, "ends": ENDA, "before": BEFORE})
>>> [is_cover(shelf, ENDA, ("ends",)), uncovered(shelf, SOME, ("ends", "odd")), uncovered(shelf, SOME, ("before", "ends", "odd")), is_split(shelf, BEFORE, ("before",))]
[True, 'aab', 'aabb', True]
>>> [least_covers(shelf, BEFORE), open_sets(shelf, BEFORE), least_covers(shelf, SOME), open_sets(shelf, SOME), is_split(shelf, ENDA, ("before", "ends"))]
[(('before',),), (('ends', 'odd'),), (), (('before', 'ends', 'odd'),), False]
>>> [cover_paper(shelf, ENDA, ("odd",))[0], is_cover_paper(shelf, ENDA, ("odd",), ("text", "aa")), is_cover_paper(shelf, ENDA, ("odd",), ("text", "ab"))]
['text', True, False]
"""
EVEN = ODD.with_ends(lasts=(0,))
ENDB = Reader("ab", 2, (0,), (1,), ((0, "a", 0), (0, "b", 0), (0, "b", 1)))
EMPTY = Reader.of_texts("ab", ("",))
THREE = Shelf("ab", {"odd": ODD, "ends": ENDA, "before": BEFORE})
PARTS = Shelf("ab", {"a": ENDA, "b": ENDB, "c": EMPTY, "d": ODD})


def subsets(names):
    """All sets of some of these names."""
    return [some for size in range(len(names) + 1) for some in combinations(names, size)]


def fits(shelf, reader):
    """Whether the tallies of all names have no readers with more than 60 states, and no more than 200 in all."""
    sizes = [len(shelf[name]) for name in shelf]
    return len(reader) * prod(sizes) <= 60 and len(reader) * prod(size + 1 for size in sizes) <= 200


def some_cases(seed, many):
    """Shelves of no, one and up to four lone readers, with readers of every kind."""
    told = random.Random(seed)
    lone = [*some_lone_readers(seed, 30, 2), ODD, EVEN, ENDA, ENDB, EMPTY, EVERY, NOTHING]
    loose = [*some_readers(seed + 1, 40, 3), SOME, NOTHING, EVERY, beside(ODD, ENDA), full_reader("ab", 2), beside(ENDA, ENDA)]
    found = []
    for at in range(many):
        names = tuple("abcd"[:at % 5])
        shelf = Shelf("ab", {name: told.choice(lone) for name in names})
        made = [told.choice(loose)]
        if names:
            # A reader that is made of those of the shelf is covered by some of them.
            own = [shelf[told.choice(names)] for _ in range(2)]
            made.extend([own[0], beside(*own), both(own[0], SOME), both(*own)])
        found.extend((shelf, reader) for reader in [told.choice(made)] if fits(shelf, reader))
    return found


CASES = [*some_cases(120, 220), (THREE, SOME), (THREE, BEFORE), (THREE, ENDA), (PARTS, EVERY), (PARTS, SOME), (PARTS, turned(BEFORE)),
         (Shelf("ab", {}), NOTHING), (Shelf("ab", {}), EVERY), (PARTS, NOTHING), (Shelf("ab", {"a": ENDA, "b": ENDB}), beside(ENDA, ENDB))]
SETS = [(shelf, reader, names) for shelf, reader in CASES for names in subsets(shelf.names)]


def first_by_sets(shelf, reader, names, is_wanted):
    """The first text that the reader reads at which the number of these readers that read it is wanted; by sets of states."""
    readers = [shelf[name] for name in names]
    return first_of((reader, *readers), lambda one, *others: one and is_wanted(sum(others)))


def none_tally(shelf, reader, names):
    """The product, as it is told."""
    parts = tuple(((-1) ** len(some), reader_of(shelf, some)) for some in subsets(names))
    return product(Tally(((1, reader),)), Tally(parts))


class CoverTests(unittest.TestCase):
    def test_examples(self):
        run_examples(self, EXAMPLES, module, formulas, shelves)

    def test_against_sets_of_states(self):
        found = []
        for shelf, reader, names in SETS:
            text = first_by_sets(shelf, reader, names, lambda many: many == 0)
            other = first_by_sets(shelf, reader, names, lambda many: many != 1)
            self.assertEqual(uncovered(shelf, reader, names), text)
            self.assertIs(is_cover(shelf, reader, names), text is None)
            self.assertIs(is_split(shelf, reader, names), other is None)
            found.append((text is None, other is None, bool(names)))
        for kind in ((True, True, True), (True, False, True), (False, False, True), (False, False, False), (True, True, False)):
            self.assertGreater(found.count(kind), 5)

    def test_least_covers_and_open_sets(self):
        sizes = set()
        for shelf, reader in CASES:
            covers = {names for names in subsets(shelf.names)
                      if first_by_sets(shelf, reader, names, lambda many: many == 0) is None}
            others = set(subsets(shelf.names)) - covers
            least = sorted(names for names in covers if not any(set(less) < set(names) for less in covers))
            greatest = sorted(names for names in others if not any(set(more) > set(names) for more in others))
            self.assertEqual(least_covers(shelf, reader), tuple(least))
            self.assertEqual(open_sets(shelf, reader), tuple(greatest))
            sizes.add((len(least), len(greatest)))
        self.assertGreater(len(sizes), 5)

    def test_parts_of_all_texts(self):
        self.assertEqual(least_covers(PARTS, EVERY), (("a", "b", "c"),))
        self.assertEqual(open_sets(PARTS, EVERY), (("a", "b", "d"), ("a", "c", "d"), ("b", "c", "d")))
        self.assertEqual([is_split(PARTS, EVERY, ("a", "b", "c")), is_split(PARTS, EVERY, ("a", "b", "c", "d"))], [True, False])
        self.assertEqual([least_covers(PARTS, NOTHING), open_sets(PARTS, NOTHING)], [((),), ()])
        self.assertEqual([is_split(PARTS, NOTHING, names) for names in subsets("abcd")], [True] * 16)
        self.assertEqual([uncovered(PARTS, EVERY, names) for names in (("a", "b"), ("b", "c"), ("a", "c"), ())], ["", "a", "b", ""])

    def test_without_readers(self):
        empty = Shelf("ab", {})
        self.assertEqual([is_cover(empty, EVERY, ()), is_cover(empty, NOTHING, ()), is_split(empty, NOTHING, ())], [False, True, True])
        self.assertEqual([uncovered(empty, SOME, ()), uncovered(empty, NOTHING, ())], ["a", None])
        self.assertEqual([least_covers(empty, SOME), open_sets(empty, SOME)], [(), ((),)])
        self.assertEqual([least_covers(empty, NOTHING), open_sets(empty, NOTHING)], [((),), ()])
        self.assertEqual(cover_paper(empty, SOME, ()), ("text", "a"))
        self.assertIs(is_cover_paper(empty, NOTHING, (), ("space", ())), True)

    def test_names_that_no_formula_can_have(self):
        shelf = Shelf("ab", {"and": ODD, "all": EVEN, "not": ENDA})
        self.assertEqual(least_covers(shelf, EVERY), (("all", "and"),))
        self.assertIs(is_split(shelf, EVERY, ("all", "and")), True)

    def test_long_first_texts(self):
        loops = Shelf("a", {"a": sized_loop(7).with_ends(lasts=tuple(range(6))), "b": Reader("a", 1, (0,), (), ((0, "a", 0),))})
        self.assertEqual(uncovered(loops, sized_loop(8), ("a", "b")), "a" * 55)
        self.assertEqual(cover_paper(loops.without_reader("b"), sized_loop(7), ("a",)), ("text", "a" * 6))


class PaperTests(unittest.TestCase):
    def test_papers(self):
        for shelf, reader, names in SETS:
            if none_tally(shelf, reader, names).width > 60:
                expect_kept(self, TooMany, "limit", 60, cover_paper, shelf, reader, names)
                continue
            paper = cover_paper(shelf, reader, names)
            self.assertIs(is_cover_paper(shelf, reader, names, paper), True)
            self.assertEqual(len(paper), 2)
            if is_cover(shelf, reader, names):
                self.assertEqual(paper[0], "space")
                self.assertTrue(is_some_space(none_tally(shelf, reader, names).parts, paper[1]))
            else:
                self.assertEqual(paper, ("text", uncovered(shelf, reader, names)))

    def test_any_text(self):
        for shelf, reader, names in SETS[::9]:
            for text in texts_up_to("ab", 4):
                wanted = reads(reader, text) and not any(reads(shelf[name], text) for name in names)
                self.assertIs(is_cover_paper(shelf, reader, names, ("text", text)), wanted)
        self.assertIs(is_cover_paper(THREE, SOME, ("odd",), ("text", "a" * 4000)), True)
        self.assertIs(is_cover_paper(THREE, SOME, ("odd",), ("text", "a" * 3999)), False)
        self.assertIs(is_cover_paper(THREE, SOME, ("odd",), ("text", "a" * 4002)), False)
        for text in ("c", "aac", "A", None, True, 1, 2, ("a",), ["aa"], {"a": 1}, ODD, "~" * 4000):
            self.assertIs(is_cover_paper(THREE, SOME, ("odd",), ("text", text)), False)

    def test_any_space(self):
        told = random.Random(121)
        small = [case for case in SETS if is_cover(*case) and none_tally(*case).width < 30]
        self.assertGreater(len(small), 50)
        for shelf, reader, names in small[::4]:
            parts = none_tally(shelf, reader, names).parts
            least, most = cover_paper(shelf, reader, names)[1], greatest_space(parts)
            for rows in (least, mixed(least, told), mixed(most, told), mixed(most, told, 10 ** 30)):
                self.assertIs(is_cover_paper(shelf, reader, names, ("space", tuple(rows))), True)
            nothing = (0,) * sum(len(part) for _, part in parts)
            for rows in (least[1:], least[:-1], (*least, *least[:1]), (*least, nothing)):
                self.assertIs(is_cover_paper(shelf, reader, names, ("space", rows)), is_some_space(parts, rows))

    def test_no_space_if_there_is_a_text(self):
        for shelf, reader, names in [case for case in SETS if not is_cover(*case)][::7]:
            tally = none_tally(shelf, reader, names)
            for rows in ((), (tally.first,), (tally.first, tally.step(tally.first))):
                self.assertIs(is_cover_paper(shelf, reader, names, ("space", rows)), False)

    def test_the_order_of_the_parts(self):
        # One state for no name, 2 for "a", 3 for "b", and 6 for both: rows must fit these pieces.
        shelf = Shelf("a", {"a": sized_loop(2).with_ends(lasts=(0,)), "b": sized_loop(3)})
        tally = none_tally(shelf, sized_loop(1), ("a", "b"))
        self.assertEqual([(number, len(reader)) for number, reader in tally.parts], [(1, 1), (-1, 2), (-1, 3), (1, 6)])
        full = Shelf("a", {"a": sized_loop(2).with_ends(lasts=(0,)), "b": sized_loop(2)})
        rows = ((1, 1, 0, 1, 0, 1, 0, 0, 0), (1, 0, 1, 0, 1, 0, 0, 0, 1))
        self.assertIs(is_cover_paper(full, sized_loop(1), ("a", "b"), ("space", rows)), True)
        self.assertIs(is_cover_paper(full, sized_loop(1), ("a", "b"), ("space", rows[:1])), False)
        turned_rows = tuple(row[::-1] for row in rows)
        self.assertIs(is_cover_paper(full, sized_loop(1), ("a", "b"), ("space", turned_rows)), False)

    def test_wrong_papers(self):
        one = Shelf("ab", {"a": EVERY})
        self.assertIs(is_cover_paper(one, EVERY, ("a",), ("space", ((LONG, LONG),))), True)
        for value in (((TOO_LONG, TOO_LONG),), ((True, True),), ((1, True),), ((0, 0),), ((1, 1), (2, 2)), (), [(1, 1)], ([1, 1],), ((1,),), (1, 1), None, 3):
            self.assertIs(is_cover_paper(one, EVERY, ("a",), ("space", value)), False)
        rows = ((1, 1),)
        for value in [*kinds(), ("space",), ("space", rows, ()), ("text", "aa", 3), ["space", rows], ["text", "aa"],
                      ("spaces", rows), (None, rows), (ODD, rows), ("length", 2), ("text",), rows, (), "aa"]:
            self.assertIs(is_cover_paper(one, EVERY, ("a",), value), False)
            self.assertIs(is_cover_paper(THREE, SOME, ("odd",), value), False)


# Calls with a shelf, a reader and names, and with a shelf and a reader.
THREE_CALLS = (is_cover, is_split, uncovered, cover_paper, lambda shelf, reader, names: is_cover_paper(shelf, reader, names, None),
               lambda shelf, reader, names: is_cover_paper(shelf, reader, names, ("text", "aa")))
TWO_CALLS = (least_covers, open_sets)


class ErrorTests(unittest.TestCase):
    def calls(self, shelf, names):
        """All calls, as calls of a reader."""
        found = [lambda reader, call=call: call(shelf, reader, names) for call in THREE_CALLS]
        return found + [lambda reader, call=call: call(shelf, reader) for call in TWO_CALLS]

    def test_no_shelf(self):
        for value in [*kinds_but(Shelf), {"a": ODD}, "ab"]:
            for call in THREE_CALLS:
                expect(self, InvalidOperation, call, value, ODD, ())
                expect(self, InvalidOperation, call, value, None, None)
            for call in TWO_CALLS:
                expect(self, InvalidOperation, call, value, ODD)
                expect(self, InvalidOperation, call, value, None)

    def test_no_reader(self):
        for call in self.calls(THREE, None):
            for value in kinds_but(Reader):
                expect(self, InvalidReader, call, value)

    def test_no_set_of_names(self):
        wrong = [["odd"], "odd", ("odd", "ends"), ("odd", "odd"), ("A",), ("",), ("far",), ("ends", "far"), (True,), (None,), (("odd",),),
                 ("odd", 1), {"odd": 1}, {}, [], None, True, 1, ODD, ("before", "ends", "odd", "zz"), *[value for value in kinds() if value != ()]]
        for names in wrong:
            for call in THREE_CALLS:
                expect(self, InvalidOperation, call, THREE, ODD, names)
                expect(self, InvalidOperation, call, THREE, full_reader("ab", 60), names)

    def test_other_letters(self):
        wide = Shelf("a", {"a": sized_loop(8), "b": sized_loop(8)})
        for call in self.calls(THREE, ("odd",)):
            expect(self, InvalidOperation, call, ODD.over("abc"))
            expect(self, InvalidOperation, call, full_reader("abc", 60))
        for call in self.calls(wide, ("a", "b")):
            expect(self, InvalidOperation, call, ODD)

    def test_too_many_states(self):
        wide = Shelf("a", {"a": sized_loop(8), "b": sized_loop(8), "c": sized_loop(2), "d": sized_loop(1)})
        for call in self.calls(wide, ("a", "b")):
            expect_kept(self, TooMany, "limit", 60, call, sized_loop(1))
        for call in self.calls(wide, ("a", "b", "c", "d")):
            expect_kept(self, TooMany, "limit", 60, call, sized_loop(1))
        for call in THREE_CALLS:
            expect_kept(self, TooMany, "limit", 60, call, wide, sized_loop(8), ("a",))
            expect_kept(self, TooMany, "limit", 60, call, wide, sized_loop(31), ("c",))
        for call in self.calls(Shelf("a", {"c": sized_loop(2)}), ("c",)):
            expect_kept(self, TooMany, "limit", 60, call, sized_loop(31))
        self.assertIs(is_cover(wide, sized_loop(60), ()), False)
        self.assertIs(is_cover(wide, sized_loop(60), ("d",)), True)
        self.assertIs(is_split(wide, sized_loop(30), ("c", "d")), False)

    def test_too_wide(self):
        broad = Shelf("a", {**{name: sized_loop(2) for name in "abd"}, "c": sized_loop(7)})
        for call in self.calls(broad, ("a", "b", "c", "d")):
            expect_kept(self, TooMany, "limit", 200, call, sized_loop(1))
            expect_kept(self, TooMany, "limit", 60, call, sized_loop(2))
        self.assertIs(is_cover(broad, sized_loop(1), ("a", "b", "c")), False)
        # Of 200 states: 8 * 5 * 5 * 1. Of 201: 67 * 3.
        just = Shelf("a", {"a": sized_loop(4), "b": sized_loop(4)})
        self.assertEqual(none_tally(just, sized_loop(3), ("a", "b")).width, 75)
        self.assertEqual(is_cover(just, sized_loop(3), ("a", "b")), False)
        for call in THREE_CALLS[:3]:
            self.assertIn(call(Shelf("a", {name: sized_loop(1) for name in "abc"}), sized_loop(25), ("a", "b", "c")), (True, False, None))
            expect_kept(self, TooMany, "limit", 200, call, Shelf("a", {name: sized_loop(1) for name in "abc"}), sized_loop(26), ("a", "b", "c"))

    def test_too_wide_for_a_paper(self):
        one = Shelf("a", {"a": sized_loop(1)})
        self.assertEqual(cover_paper(one, sized_loop(30), ("a",))[0], "space")
        self.assertEqual(cover_paper(one, sized_loop(60), ()), ("text", "a" * 59))
        expect_kept(self, TooMany, "limit", 60, cover_paper, one, sized_loop(31), ("a",))
        self.assertIs(is_cover(one, sized_loop(31), ("a",)), True)
        rows = [tuple(int(state == at) for state in range(31)) * 2 for at in range(31)]
        self.assertIs(is_cover_paper(one, sized_loop(31), ("a",), ("space", tuple(rows))), True)
        self.assertIs(is_cover_paper(one, sized_loop(31), ("a",), ("space", tuple(rows[1:]))), False)
        two = Shelf("a", {"a": sized_loop(2)})
        expect_kept(self, TooMany, "limit", 60, cover_paper, two, sized_loop(21), ("a",))
        self.assertEqual(cover_paper(two, sized_loop(20), ("a",)), ("space", cover_paper(two, sized_loop(20), ("a",))[1]))

    def test_arguments_stay(self):
        for _ in range(2):
            self.assertEqual([uncovered(THREE, SOME, ("ends", "odd")), least_covers(THREE, BEFORE)], ["aab", (("before",),)])
        self.assertEqual(THREE, Shelf("ab", {"odd": ODD, "ends": ENDA, "before": BEFORE}))


if __name__ == "__main__":
    unittest.main()
