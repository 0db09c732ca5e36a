"""Tallies that are counted to nothing, and spaces."""

import random
import unittest
from unittest import mock

from loneguess.count import spaces as module
from loneguess.count import tallies
from loneguess.count.spaces import MAX_SPACE, depth, first_text, hollow_paper, is_hollow, is_hollow_paper
from loneguess.count.tallies import Tally
from loneguess.errors import InvalidTally, TooMany
from loneguess.read import made
from loneguess.read.lone import is_lone
from loneguess.read.made import both
from loneguess.read.readers import Reader
from tests.brute import greatest_space, is_some_space, parts_step, parts_totals, rank, texts_up_to, worth
from tests.checks import expect, expect_kept
from tests.examples import run_examples
from tests.values import BEFORE, ENDA, EVERY, LONG, NOTHING, ODD, SOME, TOO_LONG
from tests.values import full_reader, kinds, kinds_but, mixed, shuffled, sized_loop, some_readers, some_tallies

EXAMPLES = """
>>> gap = Tally(((1, SOME), (-1, ODD)))
>>> [is_hollow(gap), hollow_paper(gap)[0], is_hollow_paper(gap, ("length", 3)), is_hollow_paper(gap, ("length", 1)), first_text(gap)]
[False, 'length', True, False, 'aa']
>>> same = Tally(((1, ODD), (-1, both(ODD, EVERY))))
>>> [is_hollow(same), depth(same), is_hollow_paper(same, ("space", ((1, 0, 1, 0), (1, 1, 1, 1)))), is_hollow_paper(same, ("space", ((1, 0, 1, 0), (2, 2, 2, 2), (0, 1, 0, 1))))]
[True, 2, True, False]
"""
SAME = Tally(((1, ODD), (-1, both(ODD, EVERY))))
GAP = Tally(((1, SOME), (-1, ODD)))
# Their totals are 0, their values are not.
TURN = Tally(((1, ENDA), (-1, made.turned(ENDA))))
# This one has no first states, so its first row has only zeros.
LOST = Tally(((5, NOTHING), (-2, ODD.with_ends(firsts=()))))
TALLIES = [*some_tallies(30, 90), SAME, GAP, TURN, LOST, Tally(((LONG, ODD), (-LONG, ODD)))]
HOLLOW = [tally for tally in TALLIES if not any(parts_totals(tally.parts, 2 * tally.width))]
# Sizes of primes of which the first ones are far too short.
SHORT_SIZES = (2, 3, 5, 7, 13, 17, 19, 31, 61, 89, 127, 521, 1279, 2203, 4423)


def fair_tallies(seed, many):
    """Tallies of a reader less both of it and a lone one."""
    readers = some_readers(seed, 12 * many, 3)
    lone = [reader for reader in readers if is_lone(reader)][:many]
    return [Tally(((1, one), (-1, both(one, other)))) for one, other in zip(readers, lone)]


class HollowTests(unittest.TestCase):
    def test_examples(self):
        run_examples(self, EXAMPLES, module, tallies, made)

    def test_constant(self):
        self.assertEqual(MAX_SPACE, 60)

    def test_is_hollow(self):
        self.assertGreater(len(HOLLOW), 30)
        self.assertGreater(len(TALLIES) - len(HOLLOW), 30)
        for tally in TALLIES:
            self.assertIs(is_hollow(tally), tally in HOLLOW)

    def test_the_last_length_below_the_width(self):
        # Round a loop of sixty states the first text that is read has fifty-nine letters.
        for number in (1, -1, LONG):
            self.assertIs(is_hollow(Tally(((number, sized_loop(60)),))), False)
            self.assertEqual(hollow_paper(Tally(((number, sized_loop(60)),))), ("length", 59))
        self.assertIs(is_hollow(Tally(((1, sized_loop(60)), (-1, sized_loop(60))))), True)

    def test_depth(self):
        for tally in TALLIES:
            rows = [tally.first]
            while rank(rows) == len(rows):
                rows.append(parts_step(tally.parts, rows[-1]))
            self.assertEqual(depth(tally), len(rows) - 1 if tally in HOLLOW else None)
        self.assertEqual(depth(LOST), 0)

    def test_first_text_of_fair_tallies(self):
        found = []
        for tally in [*fair_tallies(31, 99), SAME, LOST, GAP]:
            texts = texts_up_to("ab", 7)
            wanted = next((text for text in texts if worth(tally.parts, text) != 0), None)
            found.append(first_text(tally))
            self.assertEqual(found[-1], wanted)
        self.assertGreater(len([text for text in found if text]), 9)
        self.assertIn(None, found)
        self.assertIn("", found)

    def test_long_first_texts(self):
        late = Reader("abc", 60, (0,), (59,), tuple((at, "bca"[at % 3], at + 1) for at in range(59)))
        self.assertEqual(first_text(Tally(((1, late), (3, late)))), ("bca" * 20)[:59])
        # One of them reads all texts of 29 letters, the other one those whose second letter is not b.
        any_way = tuple((at, letter, at + 1) for at in range(29) for letter in "abc")
        all_read = Reader("abc", 30, (0,), (29,), any_way)
        but_one = Reader("abc", 30, (0,), (29,), (*any_way[:3], (1, "a", 2), (1, "c", 2), *any_way[6:]))
        self.assertEqual(first_text(Tally(((1, all_read), (-1, but_one)))), "ab" + 27 * "a")

    def test_values_of_both_signs_are_no_matter_of_totals(self):
        self.assertIs(is_hollow(TURN), True)
        self.assertEqual(TURN.worth("ba"), 1)
        self.assertEqual(depth(TURN), 2)


class PaperTests(unittest.TestCase):
    def test_papers(self):
        for tally in TALLIES:
            paper = hollow_paper(tally)
            self.assertIs(is_hollow_paper(tally, paper), True)
            self.assertIsInstance(paper, tuple)
            if tally in HOLLOW:
                self.assertEqual([len(paper), paper[0], len(paper[1])], [2, "space", depth(tally)])
                self.assertTrue(is_some_space(tally.parts, paper[1]))
                self.assertTrue(all(isinstance(row, tuple) for row in paper[1]))
            else:
                self.assertEqual([len(paper), paper[0]], [2, "length"])
                self.assertNotEqual(parts_totals(tally.parts, tally.width)[paper[1]], 0)

    def test_papers_with_short_primes(self):
        with mock.patch.object(module, "_SIZES", SHORT_SIZES):
            for tally in HOLLOW:
                self.assertTrue(is_some_space(tally.parts, hollow_paper(tally)[1]))
        wanted = [depth(tally) for tally in HOLLOW]
        with mock.patch.object(module, "_SIZES", SHORT_SIZES):
            self.assertEqual([depth(tally) for tally in HOLLOW], wanted)

    def test_any_length(self):
        for tally in TALLIES:
            totals = parts_totals(tally.parts, tally.width)
            for size, number in enumerate(totals):
                self.assertIs(is_hollow_paper(tally, ("length", size)), number != 0)
            for size in (-1, tally.width, tally.width + 1, 400, 401, True, False, None, "1", (1,), 10 ** 200, ODD):
                self.assertIs(is_hollow_paper(tally, ("length", size)), False)

    def test_any_space(self):
        told = random.Random(32)
        for tally in HOLLOW:
            least, most = hollow_paper(tally)[1], greatest_space(tally.parts)
            for rows in (least, most, mixed(least, told) if least else (), mixed(most, told),
                         mixed(least, told, 10 ** 40) if least else (), mixed(most, told, 10 ** 19)):
                self.assertIs(is_hollow_paper(tally, ("space", tuple(rows))), True)
            if not any(tally.first):
                self.assertIs(is_hollow_paper(tally, ("space", ())), True)

    def test_long_numbers_in_rows(self):
        rows = ((10 ** 199, 0, 10 ** 199, 0), (LONG, LONG, LONG, LONG))
        self.assertIs(is_hollow_paper(SAME, ("space", rows)), True)
        rows = ((TOO_LONG, 0, TOO_LONG, 0), (1, 1, 1, 1))
        self.assertIs(is_hollow_paper(SAME, ("space", rows)), False)
        rows = ((1, 0, 1, 0), (-TOO_LONG, 1, -TOO_LONG, 1))
        self.assertIs(is_hollow_paper(SAME, ("space", rows)), False)

    def test_rows_that_have_only_their_ends_in_common(self):
        told = random.Random(33)
        every = Tally(((1, EVERY),) * 30 + ((-1, EVERY),) * 30)
        rows = [every.first]
        for _ in range(29):
            row = [told.randrange(-LONG, LONG) // 60 for _ in range(59)]
            rows.append((*row, sum(row[:30]) - sum(row[30:])))
        less = tuple(one - other for one, other in zip(rows[1], rows[2]))
        self.assertIs(is_hollow_paper(every, ("space", tuple(rows))), True)
        self.assertIs(is_hollow_paper(every, ("space", (less, *rows[2:], rows[0]))), True)
        self.assertIs(is_hollow_paper(every, ("space", tuple(rows[1:]))), False)
        self.assertIs(is_hollow_paper(every, ("space", (*rows, less))), False)
        self.assertIs(is_hollow_paper(every, ("space", (less, *rows))), False)
        self.assertIs(is_hollow_paper(every, ("space", (*rows[:-1], (*rows[-1][:-1], rows[-1][-1] + 1)))), False)

    def test_rows_that_are_mixed_by_long_numbers(self):
        told = random.Random(34)
        loops = Tally(((1, sized_loop(30)), (-1, sized_loop(30))))
        rows = hollow_paper(loops)[1]
        mixes = [[told.randrange(-LONG, LONG) // 60 for _ in rows] for _ in rows]
        found = [tuple(sum(times * row[at] for times, row in zip(mix, rows)) for at in range(60)) for mix in mixes]
        self.assertIs(is_hollow_paper(loops, ("space", tuple(found))), True)
        self.assertIs(is_hollow_paper(loops, ("space", tuple(found[1:]))), False)
        self.assertIs(is_hollow_paper(loops, ("space", (*found, rows[0]))), False)
        self.assertIs(is_hollow_paper(loops, ("space", (*found[1:], rows[0]))), True)
        wrong = list(found[3])
        wrong[0], wrong[30] = wrong[0] + 1, wrong[30] + 1
        self.assertIs(is_hollow_paper(loops, ("space", (*found[:3], tuple(wrong), *found[4:]))), True)
        wrong[30] -= 1
        self.assertIs(is_hollow_paper(loops, ("space", (*found[:3], tuple(wrong), *found[4:]))), False)

    def test_numbers_that_a_prime_divides(self):
        for size in (31, 61, 89, 107, 127, 521):
            prime = 2 ** size - 1
            tally = Tally(((prime, ODD),)) if size < 521 else Tally(((2 ** 127 - 1, ODD),))
            self.assertEqual([is_hollow(tally), hollow_paper(tally)], [False, ("length", 1)])
            rows = ((prime, 0, prime, 0), (0, prime, 0, prime))
            self.assertIs(is_hollow_paper(SAME, ("space", rows)), True)
            self.assertIs(is_hollow_paper(SAME, ("space", (*rows, (1, 1, 1, 1)))), False)
            rows = ((1, 0, 1, 0), (1 + prime, 0, 1, prime))
            self.assertIs(is_hollow_paper(SAME, ("space", rows)), False)

    def test_sizes_of_primes(self):
        known = (127, 521, 607, 1279, 2203, 2281, 3217, 4253, 4423, 9689, 9941, 11213, 19937, 21701, 23209, 44497, 86243,
                 110503, 132049, 216091, 756839, 859433)
        self.assertEqual([size for size in module._SIZES if size not in known], [])
        for size in module._SIZES[:5]:
            number, prime = 4, 2 ** size - 1
            for _ in range(size - 2):
                number = (number * number - 2) % prime
            self.assertEqual(number, 0)

    def test_rows_with_short_primes(self):
        told = random.Random(38)
        with mock.patch.object(module, "_SIZES", SHORT_SIZES):
            for tally in HOLLOW:
                most = greatest_space(tally.parts)
                for _ in range(6):
                    rows = mixed(most, told)[:told.randint(0, len(most) + 1)]
                    rows = rows if told.random() < 0.7 else (*rows, *rows[:1])
                    self.assertIs(is_hollow_paper(tally, ("space", rows)), is_some_space(tally.parts, rows))

    def test_wrong_spaces(self):
        for tally in HOLLOW:
            rows = hollow_paper(tally)[1]
            units = [tuple(int(at == state) for at in range(tally.width)) for state in range(tally.width)]
            for value in (rows[1:], rows[:-1], (*rows, (0,) * tally.width), (*rows, *rows[:1]), tuple(units)):
                self.assertIs(is_hollow_paper(tally, ("space", value)), is_some_space(tally.parts, value))
            longer, shorter = [(*row, 0) for row in units], [row[1:] for row in units]
            for value in ([*rows], units, tuple(list(row) for row in units), tuple(longer), tuple(shorter), (*rows, ()),
                          (*rows, None), (*rows, True), (*rows, "1" * tally.width), None, 1, {}, "", ODD):
                self.assertIs(is_hollow_paper(tally, ("space", value)), False)

    def test_rows_that_are_sums_of_others(self):
        rows = ((1, 0, 1, 0), (1, 1, 1, 1))
        for more in ((0, 1, 0, 1), (2, 0, 2, 0), (0, 0, 0, 0), (5, 3, 5, 3)):
            self.assertIs(is_hollow_paper(SAME, ("space", (*rows, more))), False)
        self.assertIs(is_hollow_paper(SAME, ("space", (*rows, (1, 0, 0, 0)))), False)
        self.assertIs(is_hollow_paper(SAME, ("space", (*rows, (0, 1, 0, 0)))), False)
        self.assertIs(is_hollow_paper(SAME, ("space", rows[:1])), False)
        self.assertIs(is_hollow_paper(SAME, ("space", rows[1:])), False)
        self.assertIs(is_hollow_paper(SAME, ("space", ())), False)
        self.assertIs(is_hollow_paper(SAME, ("space", rows[::-1])), True)

    def test_true_is_not_1(self):
        self.assertIs(is_hollow_paper(SAME, ("space", ((True, 0, 1, 0), (1, 1, 1, 1)))), False)
        self.assertIs(is_hollow_paper(SAME, ("space", ((1, False, 1, 0), (1, 1, 1, 1)))), False)
        self.assertIs(is_hollow_paper(GAP, ("length", 2)), True)
        odd = Tally(((1, ODD),))
        self.assertIs(is_hollow_paper(odd, ("length", 1)), True)
        self.assertIs(is_hollow_paper(odd, ("length", True)), False)

    def test_other_values(self):
        rows = ((1, 0, 1, 0), (1, 1, 1, 1))
        for tally in (SAME, GAP, LOST):
            for value in [*kinds(), ("space",), ("space", rows, ()), ("length", 2, 3), ["space", rows], ["length", 2],
                          ("spaces", rows), (None, rows), (ODD, rows), ("text", "aa"), ("length",), rows, (), 3]:
                self.assertIs(is_hollow_paper(tally, value), False)


class WideTests(unittest.TestCase):
    def test_papers_are_for_narrow_tallies(self):
        for parts in (((1, sized_loop(30)), (-1, sized_loop(30))), ((1, full_reader("abcd", 60)),)):
            self.assertTrue(is_hollow_paper(Tally(parts), hollow_paper(Tally(parts))))
        for parts in (((1, sized_loop(30)), (-1, sized_loop(31))), ((1, full_reader("ab", 60)), (0, EVERY))):
            expect_kept(self, TooMany, "limit", 60, hollow_paper, Tally(parts))

    def test_wide_tallies(self):
        told = random.Random(35)
        arrows = tuple(arrow for arrow in full_reader("ab", 60).arrows if told.random() < 0.05)
        reader = Reader("ab", 60, (0, 7), (3, 30), arrows)
        wide = Tally(((1, reader), (-1, shuffled(reader, told)), (0, shuffled(reader, told)), (0, ODD), (0, BEFORE)))
        self.assertIs(is_hollow(wide), True)
        found = depth(wide)
        self.assertEqual(found, depth(Tally(((0, reader), (0, ODD), (0, BEFORE)))))
        self.assertGreater(found, 30)
        self.assertIs(is_hollow(wide + Tally(((1, ODD),))), False)
        self.assertIsNone(depth(wide + Tally(((1, ODD),))))
        rows = [wide.first]
        for _ in range(found - 1):
            rows.append(wide.step(rows[-1]))
        self.assertIs(is_hollow_paper(wide, ("space", tuple(rows))), True)
        self.assertIs(is_hollow_paper(wide, ("space", tuple(rows[:-1]))), False)
        self.assertIs(is_hollow_paper(wide, ("space", (*rows, wide.step(rows[-1])))), False)

    def test_a_space_as_wide_as_a_tally_can_be(self):
        loops = Tally(((0, sized_loop(60)), (0, sized_loop(59)), (0, sized_loop(58)), (0, sized_loop(23))))
        self.assertEqual(loops.width, 200)
        rows = tuple(tuple(int(at == state) for at in range(200)) for state in range(200))
        self.assertIs(is_hollow_paper(loops, ("space", rows)), True)
        self.assertIs(is_hollow_paper(loops, ("space", rows[:-1])), False)
        self.assertIs(is_hollow_paper(loops, ("space", (*rows, rows[0]))), False)
        self.assertIs(is_hollow_paper(loops, ("length", 199)), False)
        self.assertEqual(first_text(loops), None)
        last = Tally((*loops.parts[:3], (1, sized_loop(23))))
        self.assertEqual(first_text(last), "a" * 22)

    def test_greatest_numbers_in_a_paper(self):
        told = random.Random(37)
        arrows = tuple(arrow for arrow in full_reader("abcd", 60).arrows if told.random() < 0.9)
        tally = Tally(((0, Reader("abcd", 60, tuple(range(60)), tuple(range(60)), arrows)),))
        paper = hollow_paper(tally)
        self.assertEqual(len(paper[1]), 60)
        self.assertGreater(max(paper[1][-1]), 10 ** 130)
        self.assertIs(is_hollow_paper(tally, paper), True)


class ErrorTests(unittest.TestCase):
    def test_no_tally(self):
        for value in [*kinds_but(Tally), SAME.parts, ((1, ODD),)]:
            for call in (is_hollow, hollow_paper, depth, first_text, lambda tally: is_hollow_paper(tally, None),
                         lambda tally: is_hollow_paper(tally, ("length", 1))):
                expect(self, InvalidTally, call, value)

    def test_tally_stays(self):
        tally = Tally(SAME.parts)
        for _ in range(2):
            self.assertEqual([is_hollow(tally), depth(tally), first_text(tally), hollow_paper(tally)],
                             [True, 2, None, ("space", ((1, 0, 1, 0), (1, 1, 1, 1)))])
        self.assertEqual(tally, SAME)


if __name__ == "__main__":
    unittest.main()
