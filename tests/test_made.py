"""Readers made of readers."""

import unittest

from loneguess.errors import InvalidOperation, InvalidReader, InvalidText, TooMany
from loneguess.read import made as module
from loneguess.read import ways
from loneguess.read.made import ahead, behind, beside, both, trimmed, turned
from loneguess.read.readers import Reader
from tests.brute import all_ways, texts_up_to
from tests.checks import expect, expect_kept
from tests.examples import run_examples
from tests.values import BEFORE, ENDA, EVERY, NOTHING, ODD, SOME, full_reader, kinds, sized_loop, some_readers

EXAMPLES = """
>>> [trimmed(behind(BEFORE, "b")) == BEFORE, turned(ENDA).arrows, behind(ODD, "a").firsts, ahead(ENDA, "ba").lasts]
[True, ((0, 'a', 0), (0, 'b', 0), (1, 'a', 0)), (1,), (0,)]
>>> [len(both(ODD, ENDA)), "aba" in both(ODD, ENDA), "ba" in both(ODD, ENDA), count_ways(beside(ODD, ENDA), "a"), both(ODD, ENDA).lasts]
[4, False, True, 2, (3,)]
"""
READERS = [*some_readers(10, 50), ODD, ENDA, BEFORE, SOME, EVERY, NOTHING, SOME.with_ends(firsts=()),
           SOME.with_ends(lasts=())]
TEXTS = texts_up_to("ab", 4)


def many(reader, text):
    """W(text)."""
    return len(all_ways(reader, text))


class OneReaderTests(unittest.TestCase):
    def test_examples(self):
        run_examples(self, EXAMPLES, module, ways)

    def test_trimmed_has_the_states_on_ways(self):
        texts = texts_up_to("ab", 6)
        for reader in some_readers(11, 60):
            on_ways = sorted({state for text in texts for way in all_ways(reader, text) for state in way})
            found = trimmed(reader)
            if not on_ways:
                self.assertEqual(found, Reader("ab", 1, (), (), ()))
                continue
            place = {state: at for at, state in enumerate(on_ways)}
            self.assertEqual(len(found), len(on_ways))
            self.assertEqual(found.firsts, tuple(place[state] for state in reader.firsts if state in place))
            self.assertEqual(found.lasts, tuple(place[state] for state in reader.lasts if state in place))
            self.assertEqual(found.arrows, tuple((place[one], letter, place[other]) for one, letter, other in reader.arrows
                                                 if one in place and other in place))
            for text in TEXTS:
                self.assertEqual(many(found, text), many(reader, text))

    def test_trimmed_at_the_edges(self):
        nothing = Reader("ab", 1, (), (), ())
        for reader in (NOTHING, SOME.with_ends(firsts=()), SOME.with_ends(lasts=()), ENDA.without_arrow(0, "a", 1)):
            self.assertEqual(trimmed(reader), nothing)
        self.assertEqual(trimmed(Reader("xyz", 60, (1,), (2,), ((0, "x", 1), (2, "y", 3)))), Reader("xyz", 1, (), (), ()))
        # State 0 comes from nowhere, 2 leads nowhere, 3 stands alone and is first and last.
        reader = Reader("ab", 5, (1, 3), (3, 4), ((0, "a", 4), (1, "a", 2), (1, "b", 4)))
        self.assertEqual(trimmed(reader), Reader("ab", 3, (0, 1), (1, 2), ((0, "b", 2),)))
        for reader in (ODD, ENDA, BEFORE, SOME, EVERY, full_reader("abcd", 60), sized_loop(60)):
            self.assertEqual(trimmed(reader), reader)

    def test_turned(self):
        for reader in READERS:
            found = turned(reader)
            self.assertEqual((found.firsts, found.lasts), (reader.lasts, reader.firsts))
            self.assertEqual(turned(found), reader)
            for text in TEXTS:
                self.assertEqual(many(found, text[::-1]), many(reader, text))

    def test_behind_and_ahead(self):
        for reader in READERS:
            for text in texts_up_to("ab", 2):
                later, sooner = behind(reader, text), ahead(reader, text)
                self.assertEqual((later.lasts, later.arrows, len(later)), (reader.lasts, reader.arrows, len(reader)))
                self.assertEqual((sooner.firsts, sooner.arrows, len(sooner)), (reader.firsts, reader.arrows, len(reader)))
                for other in texts_up_to("ab", 2):
                    self.assertIs(other in later, many(reader, text + other) > 0)
                    self.assertIs(other in sooner, many(reader, other + text) > 0)
            self.assertEqual(behind(reader, ""), reader)
            self.assertEqual(ahead(reader, ""), reader)

    def test_behind_a_text_that_leads_nowhere(self):
        self.assertEqual(behind(Reader.of_texts("ab", ("a",)), "b").firsts, ())
        self.assertEqual(ahead(ENDA, "b").lasts, ())


class TwoReadersTests(unittest.TestCase):
    def test_numbers_of_ways(self):
        for one, other in zip(READERS, READERS[3:] + READERS[:3]):
            pair, side = both(one, other), beside(one, other)
            for text in TEXTS:
                self.assertEqual(many(pair, text), many(one, text) * many(other, text))
                self.assertEqual(many(side, text), many(one, text) + many(other, text))

    def test_states_of_both(self):
        found = both(BEFORE, SOME)
        self.assertEqual((found.letters, len(found), found.firsts, found.lasts), ("ab", 6, (0,), (5,)))
        wanted = sorted((p * 2 + q, x, r * 2 + s) for p, x, r in BEFORE.arrows for q, y, s in SOME.arrows if x == y)
        self.assertEqual(found.arrows, tuple(wanted))
        twice = both(ODD.with_ends(firsts=(0, 1)), BEFORE.with_ends(firsts=(0, 2)))
        self.assertEqual((twice.firsts, twice.lasts), ((0, 2, 3, 5), (5,)))

    def test_states_of_beside(self):
        found = beside(BEFORE, SOME)
        self.assertEqual((len(found), found.firsts, found.lasts), (5, (0, 3), (2, 4)))
        moved = tuple((one + 3, letter, other + 3) for one, letter, other in SOME.arrows)
        self.assertEqual(found.arrows, BEFORE.arrows + moved)

    def test_without_ends(self):
        for call in (both, beside):
            self.assertEqual(call(NOTHING, NOTHING).lasts, ())
        self.assertEqual(both(ODD, NOTHING), Reader("ab", 2, (), (), ()))
        self.assertEqual(beside(NOTHING, EVERY), Reader("ab", 2, (1,), (1,), ((1, "a", 1), (1, "b", 1))))

    def test_sixty_states(self):
        for one, other in ((6, 10), (60, 1), (1, 60), (2, 30)):
            self.assertEqual(len(both(sized_loop(one), sized_loop(other))), 60)
        for one, other in ((30, 30), (59, 1), (1, 59)):
            self.assertEqual(len(beside(sized_loop(one), sized_loop(other))), 60)
        for one, other in ((8, 8), (31, 2), (2, 31), (60, 2), (60, 60)):
            expect_kept(self, TooMany, "limit", 60, both, sized_loop(one), sized_loop(other))
        for one, other in ((31, 30), (60, 1), (1, 60), (60, 60)):
            expect_kept(self, TooMany, "limit", 60, beside, sized_loop(one), sized_loop(other))

    def test_all_arrows_of_sixty_states(self):
        found = both(full_reader("abcd", 10), full_reader("abcd", 6))
        self.assertEqual(found, full_reader("abcd", 60))

    def test_other_letters(self):
        for call in (both, beside):
            for other in (ODD.over("abc"), sized_loop(2), sized_loop(60, "z"), sized_loop(60, "abc")):
                expect(self, InvalidOperation, call, ODD, other)
                expect(self, InvalidOperation, call, other, ODD)
                expect(self, InvalidOperation, call, full_reader("ab", 60), other)


class ErrorTests(unittest.TestCase):
    def test_no_reader(self):
        for value in [*kinds(), "ab", ("ab", 1, (), (), ())]:
            if isinstance(value, Reader):
                continue
            for call in (trimmed, turned):
                expect(self, InvalidReader, call, value)
            for call in (behind, ahead, both, beside):
                for other in ("a", None, ODD, "c", sized_loop(60, "z")):
                    expect(self, InvalidReader, call, value, other)
            for call in (both, beside):
                expect(self, InvalidReader, call, ODD, value)
                expect(self, InvalidReader, call, sized_loop(60), value)

    def test_no_text(self):
        for value in [*kinds(), "c", "abc", "A", " "]:
            if value not in ("ba", "aa"):
                expect(self, InvalidText, behind, ODD, value)
                expect(self, InvalidText, ahead, ODD, value)

    def test_arguments_stay(self):
        one, other = Reader("ab", 2, (0,), (1,), ODD.arrows), Reader("ab", 2, (0,), (1,), ENDA.arrows)
        for _ in range(2):
            self.assertEqual(both(one, other), both(ODD, ENDA))
            self.assertEqual(beside(one, other), beside(ODD, ENDA))
            self.assertEqual([turned(one), trimmed(one), behind(one, "a"), ahead(one, "a")],
                             [turned(ODD), trimmed(ODD), behind(ODD, "a"), ahead(ODD, "a")])
        self.assertEqual((one, other), (ODD, ENDA))


if __name__ == "__main__":
    unittest.main()
