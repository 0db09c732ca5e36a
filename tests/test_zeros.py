"""Tallies whose value is 0 at all texts."""

import random
import unittest
from unittest import mock

from loneguess.count import spaces, tallies
from loneguess.count import zeros as module
from loneguess.count.spaces import is_hollow
from loneguess.count.tallies import Tally
from loneguess.count.zeros import are_as_many, is_zero, is_zero_paper, zero_paper
from loneguess.errors import InvalidOperation, InvalidReader, InvalidTally, TooMany
from loneguess.read import made
from loneguess.read.made import both, turned
from loneguess.read.readers import Reader
from tests.brute import all_ways, greatest_space, is_some_space, rank, texts_up_to, worth
from tests.checks import expect, expect_kept
from tests.examples import run_examples
from tests.values import BEFORE, ENDA, EVERY, LONG, NOTHING, ODD, SOME, TOO_LONG
from tests.values import full_reader, kinds, kinds_but, mixed, shuffled, sized_loop, some_readers, some_tallies

EXAMPLES = """
>>> turn = Tally(((1, ENDA), (-1, turned(ENDA))))
>>> [is_hollow(turn), is_zero(turn), zero_paper(turn)[0], is_zero_paper(turn, ("text", "ab")), is_zero_paper(turn, ("text", "aa")), are_as_many(SOME, turned(SOME))]
[True, False, 'text', True, False, True]
>>> same = Tally(((1, ODD), (-1, both(ODD, EVERY))))
>>> [is_zero(same), is_zero_paper(same, ("space", ((1, 0, 1, 0), (0, 1, 0, 1)))), is_zero_paper(turn, ("space", ((1, 0, 0, 1), (2, 1, 2, 1))))]
[True, True, False]
"""
SAME = Tally(((1, ODD), (-1, both(ODD, EVERY))))
TURN = Tally(((1, ENDA), (-1, turned(ENDA))))
LOST = Tally(((5, NOTHING), (-2, ODD.with_ends(firsts=()))))
TALLIES = [*some_tallies(40, 60), *[tally for tally in some_tallies(41, 60, 2) if tally.width < 8],
           SAME, TURN, LOST, Tally(((1, BEFORE), (-1, turned(BEFORE)))), Tally(((LONG, SOME), (-LONG, turned(SOME))))]
SHORT_SIZES = (2, 3, 5, 7, 13, 17, 19, 31, 61, 89, 127, 521, 1279, 2203, 4423)


def is_really_zero(tally):
    """By rows: those that texts lead to, as long as there come new ones."""
    rows, fresh = [], [tally.first]
    while fresh:
        row = fresh.pop(0)
        if rank([*rows, row]) > len(rows):
            rows.append(row)
            fresh.extend(tally.through(row, letter) for letter in tally.letters)
    return all(tally.end(row) == 0 for row in rows)


ZERO = [tally for tally in TALLIES if is_really_zero(tally)]


class ZeroTests(unittest.TestCase):
    def test_examples(self):
        run_examples(self, EXAMPLES, module, spaces, tallies, made)

    def test_is_zero(self):
        self.assertGreater(len(ZERO), 20)
        self.assertGreater(len([tally for tally in TALLIES if tally not in ZERO]), 20)
        self.assertTrue([tally for tally in TALLIES if tally not in ZERO and is_hollow(tally)])
        for tally in TALLIES:
            self.assertIs(is_zero(tally), tally in ZERO)

    def test_against_all_texts(self):
        for tally in TALLIES:
            if tally.width <= 8:
                self.assertIs(is_zero(tally), not any(worth(tally.parts, text) for text in texts_up_to("ab", tally.width - 1)))

    def test_hollow_tallies_that_are_not_zero(self):
        for reader in (ENDA, BEFORE, turned(BEFORE)):
            tally = Tally(((1, reader), (-1, turned(reader))))
            self.assertEqual([is_hollow(tally), is_zero(tally), zero_paper(tally)[0]], [True, False, "text"])

    def test_the_only_text_is_long(self):
        word = "abbab" * 11 + "bbab"
        arrows = tuple((at, letter, at + 1) for at, letter in enumerate(word))
        late = Reader("ab", 60, (0,), (59,), arrows)
        self.assertEqual(zero_paper(Tally(((-3, late),))), ("text", word))
        for number in (1, -1, LONG):
            self.assertIs(is_zero(Tally(((number, late), (1, sized_loop(60, "ab")), (-1, sized_loop(60, "ab"))))), False)
        self.assertIs(is_zero(Tally(((7, late), (-7, late)))), True)

    def test_numbers_that_a_prime_divides(self):
        for size in (31, 61, 127, 521):
            self.assertIs(is_zero(Tally(((2 ** size - 1, ODD),))), False)
            self.assertEqual(zero_paper(Tally(((2 ** size - 1, ODD),))), ("text", "a"))


class PaperTests(unittest.TestCase):
    def test_papers(self):
        for tally in TALLIES:
            paper = zero_paper(tally)
            self.assertIs(is_zero_paper(tally, paper), True)
            self.assertEqual(len(paper), 2)
            if tally in ZERO:
                self.assertEqual(paper[0], "space")
                self.assertTrue(is_some_space(tally.parts, paper[1], True))
                self.assertTrue(is_some_space(tally.parts, paper[1]))
            else:
                self.assertEqual(paper[0], "text")
                self.assertLess(len(paper[1]), tally.width)
                self.assertNotEqual(worth(tally.parts, paper[1]), 0)

    def test_papers_with_short_primes(self):
        with mock.patch.object(spaces, "_SIZES", SHORT_SIZES):
            for tally in TALLIES:
                paper = zero_paper(tally)
                self.assertIs(paper[0] == "space", tally in ZERO)
                if tally in ZERO:
                    self.assertTrue(is_some_space(tally.parts, paper[1], True))

    def test_any_text(self):
        for tally in TALLIES:
            for text in texts_up_to("ab", min(5, tally.width + 1)):
                is_right = worth(tally.parts, text) != 0 and len(text) < tally.width
                self.assertIs(is_zero_paper(tally, ("text", text)), is_right)
            for text in ("c", "abc", "A", None, True, 1, ("a",), ["a"], ODD, "a" * tally.width, "ab" * 2000, "~" * 4000):
                self.assertIs(is_zero_paper(tally, ("text", text)), False)

    def test_any_wide_space(self):
        told = random.Random(42)
        for tally in ZERO:
            least, most = zero_paper(tally)[1], greatest_space(tally.parts, True)
            for rows in (least, most, mixed(least, told), mixed(most, told), mixed(least, told, 10 ** 40),
                         mixed(most, told, 10 ** 19)):
                self.assertIs(is_zero_paper(tally, ("space", tuple(rows))), True)
                self.assertIs(spaces.is_hollow_paper(tally, ("space", tuple(rows))), True)

    def test_spaces_that_are_not_wide(self):
        found = 0
        for tally in TALLIES:
            if is_hollow(tally):
                rows = spaces.hollow_paper(tally)[1]
                is_right = is_some_space(tally.parts, rows, True)
                self.assertIs(is_zero_paper(tally, ("space", rows)), is_right)
                found += not is_right
        self.assertGreater(found, 1)

    def test_each_letter_counts(self):
        # The first letter leads nowhere else; only together do the other two make a sum of multiples.
        for one, two, three in ("abc", "bca", "cab"):
            arrows = tuple(sorted(((0, one, 0), (0, two, 1), (0, three, 2))))
            tally = Tally(((1, Reader("abc", 3, (0,), (), arrows)),))
            rows = ((1, 0, 0), (0, 1, 1))
            self.assertIs(spaces.is_hollow_paper(tally, ("space", rows)), True)
            self.assertIs(is_zero_paper(tally, ("space", rows)), False)
            self.assertIs(is_zero_paper(tally, ("space", (*rows, (0, 0, 2)))), True)

    def test_wrong_spaces(self):
        for tally in ZERO:
            rows = zero_paper(tally)[1]
            units = [tuple(int(at == state) for at in range(tally.width)) for state in range(tally.width)]
            for value in (rows[1:], rows[:-1], (*rows, (0,) * tally.width), (*rows, *rows[:1]), tuple(units)):
                self.assertIs(is_zero_paper(tally, ("space", value)), is_some_space(tally.parts, value, True))
            longer, shorter = [(*row, 0) for row in units], [row[1:] for row in units]
            for value in ([*rows], units, tuple(list(row) for row in units), tuple(longer), tuple(shorter), (*rows, ()),
                          (*rows, None), (*rows, True), (*rows, "1" * tally.width), None, 1, {}, "", ODD):
                self.assertIs(is_zero_paper(tally, ("space", value)), False)

    def test_numbers_in_rows(self):
        self.assertIs(is_zero_paper(SAME, ("space", ((LONG, 0, LONG, 0), (0, -LONG, 0, -LONG)))), True)
        self.assertIs(is_zero_paper(SAME, ("space", ((TOO_LONG, 0, TOO_LONG, 0), (0, 1, 0, 1)))), False)
        self.assertIs(is_zero_paper(SAME, ("space", ((True, 0, 1, 0), (0, 1, 0, 1)))), False)
        self.assertIs(is_zero_paper(SAME, ("space", ((1, False, 1, 0), (0, 1, 0, 1)))), False)
        self.assertIs(is_zero_paper(SAME, ("space", ((1, 0, 1, 0), (1, 0, 1, 0)))), False)
        self.assertIs(is_zero_paper(SAME, ("space", ((1, 0, 1, 0),))), False)
        self.assertIs(is_zero_paper(SAME, ("space", ())), False)
        self.assertIs(is_zero_paper(LOST, ("space", ())), True)
        self.assertEqual(zero_paper(LOST), ("space", ()))

    def test_other_values(self):
        rows = ((1, 0, 1, 0), (0, 1, 0, 1))
        for tally in (SAME, TURN, LOST):
            for value in [*kinds(), ("space",), ("space", rows, ()), ("text", "ab", 3), ["space", rows], ["text", "ab"],
                          ("spaces", rows), (None, rows), (ODD, rows), ("length", 2), ("text",), rows, (), 3, "ab"]:
                self.assertIs(is_zero_paper(tally, value), False)

    def test_papers_are_for_narrow_tallies(self):
        for parts in (((1, sized_loop(30)), (-1, sized_loop(30))), ((1, full_reader("abcd", 60)),)):
            self.assertTrue(is_zero_paper(Tally(parts), zero_paper(Tally(parts))))
        for parts in (((1, sized_loop(30)), (-1, sized_loop(31))), ((1, full_reader("ab", 60)), (0, EVERY))):
            expect_kept(self, TooMany, "limit", 60, zero_paper, Tally(parts))

    def test_wide_tallies(self):
        loops = Tally(((0, sized_loop(60)), (0, sized_loop(59)), (0, sized_loop(58)), (0, sized_loop(23))))
        self.assertIs(is_zero(loops), True)
        rows = tuple(tuple(int(at == state) for at in range(200)) for state in range(200))
        self.assertIs(is_zero_paper(loops, ("space", rows)), True)
        self.assertIs(is_zero_paper(loops, ("space", rows[:-1])), False)
        last = Tally((*loops.parts[:3], (1, sized_loop(23))))
        self.assertIs(is_zero(last), False)
        self.assertIs(is_zero_paper(last, ("text", "a" * 22)), True)
        self.assertIs(is_zero_paper(last, ("text", "a" * (22 + 23 * 7))), True)
        self.assertIs(is_zero_paper(last, ("text", "a" * (22 + 23 * 8))), False)

    def test_greatest_numbers_in_a_paper(self):
        told = random.Random(43)
        arrows = tuple(arrow for arrow in full_reader("abcd", 60).arrows if told.random() < 0.9)
        paper = zero_paper(Tally(((0, Reader("abcd", 60, tuple(range(60)), tuple(range(60)), arrows)),)))
        self.assertEqual(len(paper[1]), 60)


class AsManyTests(unittest.TestCase):
    def test_against_all_texts(self):
        readers = some_readers(44, 40, 2)
        texts = texts_up_to("ab", 4)
        alike = 0
        for one in readers:
            for other in readers[:20]:
                wanted = all(len(all_ways(one, text)) == len(all_ways(other, text)) for text in texts)
                self.assertIs(are_as_many(one, other), wanted)
                alike += wanted
        self.assertGreater(alike, 30)

    def test_another_order_of_states(self):
        told = random.Random(45)
        for reader in [*some_readers(46, 30, 5), BEFORE, ODD, full_reader("ab", 60), sized_loop(60)]:
            self.assertIs(are_as_many(reader, shuffled(reader, told)), True)
            self.assertIs(are_as_many(reader, reader), True)

    def test_an_arrow_less(self):
        for reader in (ODD, ENDA, BEFORE, SOME, EVERY):
            for arrow in reader.arrows:
                self.assertIs(are_as_many(reader, reader.without_arrow(*arrow)), False)
                self.assertIs(are_as_many(reader.without_arrow(*arrow), reader), False)

    def test_turned(self):
        self.assertEqual([are_as_many(reader, turned(reader)) for reader in (ODD, ENDA, BEFORE, SOME, EVERY, NOTHING)],
                         [True, False, False, True, True, True])

    def test_great_readers(self):
        told = random.Random(47)
        arrows = tuple(arrow for arrow in full_reader("abcd", 60).arrows if told.random() < 0.04)
        reader = Reader("abcd", 60, (0, 1, 5), (3, 7, 30, 31), arrows)
        other = shuffled(reader, told)
        self.assertIs(are_as_many(reader, other), True)
        self.assertIs(are_as_many(reader, other.with_ends(lasts=other.lasts[1:])), False)
        self.assertIs(are_as_many(full_reader("abcd", 60), full_reader("abcd", 59)), False)

    def test_which_error_comes_first(self):
        for value in [*kinds_but(Reader), SAME]:
            expect(self, InvalidReader, are_as_many, value, ODD)
            expect(self, InvalidReader, are_as_many, ODD, value)
            expect(self, InvalidReader, are_as_many, value, None)
        expect(self, InvalidOperation, are_as_many, ODD, ODD.over("abc"))
        expect(self, InvalidOperation, are_as_many, full_reader("ab", 60), full_reader("abc", 60))


class ErrorTests(unittest.TestCase):
    def test_no_tally(self):
        for value in [*kinds_but(Tally), SAME.parts, ((1, ODD),)]:
            for call in (is_zero, zero_paper, lambda tally: is_zero_paper(tally, None),
                         lambda tally: is_zero_paper(tally, ("text", "ab"))):
                expect(self, InvalidTally, call, value)

    def test_tally_stays(self):
        tally = Tally(SAME.parts)
        for _ in range(2):
            self.assertEqual([is_zero(tally), zero_paper(tally)], [True, ("space", ((1, 0, 1, 0), (0, 1, 0, 1)))])
        self.assertEqual(tally, SAME)


if __name__ == "__main__":
    unittest.main()
