"""Readers within lone ones."""

import random
import unittest

from loneguess.count import within as module
from loneguess.count.spaces import depth
from loneguess.count.within import are_alike, are_apart, is_full, is_nearly_within, is_within, is_within_paper
from loneguess.count.within import outside, rest, tally_within, within_paper
from loneguess.errors import InvalidOperation, InvalidReader, NotLone, TooMany
from loneguess.read.lone import two_ways
from loneguess.read.made import beside, both, turned
from loneguess.read.readers import Reader
from tests.brute import first_of, greatest_space, is_some_space, text_counts, texts_up_to
from tests.checks import expect, expect_kept
from tests.examples import run_examples
from tests.values import BEFORE, ENDA, EVERY, LONG, NOTHING, ODD, SOME, TOO_LONG
from tests.values import full_reader, kinds, kinds_but, mixed, shuffled, sized_loop, some_lone_readers, some_readers

EXAMPLES = """
>>> few = Reader.of_texts("ab", ("ba", "", "b"))
>>> [is_within(ENDA, EVERY), is_within(SOME, ODD), outside(SOME, ODD), outside(EVERY, ENDA), is_within(ODD, SOME.over("ab").with_ends(lasts=())), is_full(EVERY)]
[True, False, 'aa', '', False, True]
>>> [within_paper(SOME, ODD)[0], is_within_paper(SOME, ODD, ("text", "aba")), is_within_paper(ODD, EVERY, ("space", ((1, 0, 1, 0), (1, 1, 1, 1)))), are_apart(ODD, ENDA)]
['text', True, True, False]
>>> [rest(Reader.of_texts("ab", ("a", "ab", "b")), ENDA), rest(BEFORE, ENDA), is_nearly_within(few, ENDA)]
[2, None, True]
>>> is_within(ODD, SOME)
raises NotLone('aa')
"""
FEW = Reader.of_texts("ab", ("ba", "", "b"))
LONE = [*some_lone_readers(50, 24), ODD, ENDA, BEFORE, EVERY, NOTHING, FEW, SOME.with_ends(lasts=()),
        Reader("ab", 2, (0, 1), (0, 1), ((0, "a", 0), (1, "b", 1))).with_ends(firsts=(0,))]
ANY = [*some_readers(51, 24), *LONE[-8:], SOME, beside(ODD, ENDA), full_reader("ab", 2), Reader.of_texts("ab", ("", "abb"))]
PAIRS = [(one, other) for one in ANY for other in LONE]
ALIKE = [(reader, both(reader, EVERY)) for reader in LONE]
# Calls of two readers of which the second one must be lone.
CALLS = (tally_within, is_within, outside, within_paper, is_nearly_within, rest,
         lambda one, other: is_within_paper(one, other, None), lambda one, other: is_within_paper(one, other, ("text", "a")))


def only_first(one, other):
    """Whether only the first one of two truth values is true."""
    return one and not other


class WithinTests(unittest.TestCase):
    def test_examples(self):
        run_examples(self, EXAMPLES, module)

    def test_tally(self):
        for one, other in PAIRS:
            self.assertEqual(tally_within(one, other).parts, ((1, one), (-1, both(one, other))))

    def test_within_and_outside(self):
        found = []
        for one, other in [*PAIRS, *ALIKE]:
            text = first_of((one, other), only_first)
            self.assertEqual(outside(one, other), text)
            self.assertIs(is_within(one, other), text is None)
            found.append(text)
        self.assertGreater(found.count(None), 100)
        self.assertTrue([text for text in found if text and len(text) > 2])

    def test_long_first_text(self):
        every = Reader("a", 1, (0,), (0,), ((0, "a", 0),))
        short = Reader("a", 59, (0,), tuple(range(58)), tuple((at, "a", at + 1) for at in range(58)))
        self.assertEqual(outside(every, short), "a" * 58)
        word = "abcacb" * 9 + "abca"
        chain = Reader("abc", 59, (0,), (58,), tuple((at, letter, at + 1) for at, letter in enumerate(word)))
        self.assertEqual(outside(chain, Reader("abc", 1, (), (), ())), word)
        single = Reader("abc", 2, (0,), (1,), tuple((0, letter, 1) for letter in "abc"))
        self.assertEqual(outside(Reader("abc", 30, (0,), (29,), chain.arrows[:29]), single), word[:29])

    def test_loops_that_agree_for_long(self):
        # Texts a^k with k a multiple of six are read by one, by the other one those with k = 0 or k not one of seven.
        one = sized_loop(6).with_ends(lasts=(0,))
        other = sized_loop(7).with_ends(lasts=(0, 1, 2, 3, 4, 5))
        self.assertEqual(outside(one, other), "a" * 6)
        other = sized_loop(7).with_ends(lasts=(0, 1, 2, 3, 4, 6))
        self.assertEqual(outside(one, other), "a" * 12)
        other = sized_loop(7).with_ends(lasts=(0, 2, 3, 4, 5, 6))
        self.assertEqual(outside(one, other), "a" * 36)


class PaperTests(unittest.TestCase):
    def test_papers(self):
        for one, other in [*PAIRS, *ALIKE]:
            paper = within_paper(one, other)
            self.assertIs(is_within_paper(one, other, paper), True)
            self.assertEqual(len(paper), 2)
            if is_within(one, other):
                tally = tally_within(one, other)
                self.assertEqual([paper[0], len(paper[1])], ["space", depth(tally)])
                self.assertTrue(is_some_space(tally.parts, paper[1]))
            else:
                self.assertEqual(paper[0], "text")
                self.assertTrue(paper[1] in one and paper[1] not in other)

    def test_any_text(self):
        texts = texts_up_to("ab", 4)
        for one, other in PAIRS[::7]:
            for text in texts:
                self.assertIs(is_within_paper(one, other, ("text", text)), text in one and text not in other)
        self.assertIs(is_within_paper(SOME, ODD, ("text", "a" * 4000)), True)
        self.assertIs(is_within_paper(SOME, ODD, ("text", "a" * 3999)), False)
        self.assertIs(is_within_paper(SOME, ODD, ("text", "a" * 4002)), False)
        for text in ("c", "aac", "A", None, True, 1, 2, ("a",), ["aa"], {"a": 1}, ODD, "~" * 4000):
            self.assertIs(is_within_paper(SOME, ODD, ("text", text)), False)

    def test_any_space(self):
        told = random.Random(52)
        for one, other in [pair for pair in PAIRS if is_within(*pair)][::4]:
            tally = tally_within(one, other)
            least, most = within_paper(one, other)[1], greatest_space(tally.parts)
            for rows in (least, mixed(least, told), mixed(most, told), mixed(most, told, 10 ** 30)):
                self.assertIs(is_within_paper(one, other, ("space", tuple(rows))), True)
            units = [tuple(int(at == state) for at in range(tally.width)) for state in range(tally.width)]
            for rows in (least[1:], least[:-1], (*least, *least[:1]), (*least, (0,) * tally.width), tuple(units)):
                self.assertIs(is_within_paper(one, other, ("space", rows)), is_some_space(tally.parts, rows))

    def test_no_space_if_a_text_is_outside(self):
        for one, other in [pair for pair in PAIRS if not is_within(*pair)][::5]:
            tally = tally_within(one, other)
            units = [tuple(int(at == state) for at in range(tally.width)) for state in range(tally.width)]
            for rows in ((), (tally.first,), (tally.first, tally.step(tally.first)), tuple(units)):
                self.assertIs(is_within_paper(one, other, ("space", rows)), False)

    def test_wrong_papers(self):
        rows = ((1, 0, 1, 0), (1, 1, 1, 1))
        self.assertIs(is_within_paper(ODD, EVERY, ("space", ((LONG, 0, LONG, 0), (1, 1, 1, 1)))), True)
        for value in (((TOO_LONG, 0, TOO_LONG, 0), (1, 1, 1, 1)), ((True, 0, 1, 0), (1, 1, 1, 1)), [*rows], rows[:1], (),
                      ([1, 0, 1, 0], (1, 1, 1, 1)), ((1, 0, 1), (1, 1, 1)), (*rows, (0, 1, 0, 1)), None, 3):
            self.assertIs(is_within_paper(ODD, EVERY, ("space", value)), False)
        for value in [*kinds(), ("space",), ("space", rows, ()), ("text", "aa", 3), ["space", rows], ["text", "aa"],
                      ("spaces", rows), (None, rows), (ODD, rows), ("length", 2), ("text",), rows, (), "aa"]:
            self.assertIs(is_within_paper(ODD, EVERY, value), False)
            self.assertIs(is_within_paper(SOME, ODD, value), False)


class OtherTests(unittest.TestCase):
    def test_is_full(self):
        for reader in LONE:
            self.assertIs(is_full(reader), first_of((reader,), lambda reads: not reads) is None)
        full = [Reader("ab", 2, (0,), (0, 1), ((0, "a", 1), (0, "b", 0), (1, "a", 0), (1, "b", 1))),
                sized_loop(60).with_ends(lasts=tuple(range(60))), Reader("abc", 1, (0,), (0,), tuple((0, x, 0) for x in "abc"))]
        for reader in full:
            self.assertIs(is_full(reader), True)
        self.assertIs(is_full(full[1].with_ends(lasts=full[1].lasts[:-1])), False)
        self.assertIs(is_full(EVERY.over("abc")), False)

    def test_are_alike(self):
        found = 0
        for one in LONE:
            for other in LONE:
                wanted = first_of((one, other), lambda first, second: first != second) is None
                self.assertIs(are_alike(one, other), wanted)
                found += wanted and one != other
        self.assertGreater(found, 3)
        for one, other in ALIKE:
            self.assertIs(are_alike(one, other), True)
        told = random.Random(53)
        self.assertIs(are_alike(BEFORE, shuffled(BEFORE, told)), True)
        self.assertIs(are_alike(BEFORE, turned(BEFORE)), False)

    def test_are_apart(self):
        found = []
        for one in ANY:
            for other in ANY:
                wanted = first_of((one, other), lambda first, second: first and second) is None
                self.assertIs(are_apart(one, other), wanted)
                found.append(wanted)
        self.assertGreater(found.count(True), 9)
        self.assertIs(are_apart(SOME, SOME), False)
        self.assertIs(are_apart(SOME, Reader.of_texts("ab", ("", "b", "bbbb"))), True)

    def test_nearly_within_and_rest(self):
        found = []
        for one, other in PAIRS:
            size = (len(one) + 1) * 2 ** len(other)
            counts = text_counts((one, other), only_first, size * 2)
            is_finite = not any(counts[size:])
            self.assertIs(is_nearly_within(one, other), is_finite)
            if two_ways(one) is None:
                found.append(rest(one, other))
                self.assertEqual(found[-1], sum(counts) if is_finite else None)
        self.assertGreater(len([many for many in found if many]), 5)
        self.assertIn(0, found)
        self.assertIn(None, found)

    def test_rest_of_finitely_many_texts(self):
        texts = ("", "a", "ab", "bba", "aaaa", "baaab")
        reader = Reader.of_texts("ab", texts)
        for other in LONE:
            if len(other) * len(reader) <= 60:
                self.assertEqual(rest(reader, other), len([text for text in texts if text not in other]))
                self.assertIs(is_nearly_within(reader, other), True)
        chain = tuple((at, letter, at + 1) for at in range(59) for letter in "abcd")
        self.assertEqual(rest(Reader("abcd", 60, (0,), (59,), chain), Reader("abcd", 1, (), (), ())), 4 ** 59)
        self.assertIs(is_nearly_within(sized_loop(60), Reader("a", 1, (), (), ())), False)


class ErrorTests(unittest.TestCase):
    def test_no_reader(self):
        for call in (*CALLS, are_alike, are_apart):
            for value in [*kinds_but(Reader), "ab", ((1, ODD),)]:
                expect(self, InvalidReader, call, value, ODD)
                expect(self, InvalidReader, call, ODD, value)
                expect(self, InvalidReader, call, value, None)
                expect(self, InvalidReader, call, SOME, value)
        for value in [*kinds_but(Reader), "ab"]:
            expect(self, InvalidReader, is_full, value)

    def test_other_letters(self):
        for call in (*CALLS, are_alike, are_apart):
            expect(self, InvalidOperation, call, ODD, SOME.over("abc"))
            expect(self, InvalidOperation, call, full_reader("ab", 60), full_reader("abc", 60))

    def test_not_lone(self):
        for call in CALLS:
            expect_kept(self, NotLone, "text", "aa", call, ODD, SOME)
            expect_kept(self, NotLone, "text", "aa", call, full_reader("ab", 9), SOME)
            expect_kept(self, NotLone, "text", "", call, ODD, full_reader("ab", 60))
        expect_kept(self, NotLone, "text", "aa", is_full, SOME)
        expect_kept(self, NotLone, "text", "aa", rest, SOME, ODD)
        expect_kept(self, NotLone, "text", "", rest, SOME, full_reader("ab", 2))
        expect_kept(self, NotLone, "text", "aa", are_alike, SOME, full_reader("ab", 60))
        expect_kept(self, NotLone, "text", "", are_alike, full_reader("ab", 60), SOME)
        expect_kept(self, NotLone, "text", "aa", are_alike, ODD, SOME)
        self.assertIs(are_apart(SOME, SOME), False)

    def test_too_many(self):
        eight = sized_loop(8)
        for call in (*CALLS, are_alike, are_apart):
            expect_kept(self, TooMany, "limit", 60, call, eight, eight)
            expect_kept(self, TooMany, "limit", 60, call, sized_loop(60), sized_loop(2))
            expect_kept(self, TooMany, "limit", 60, call, sized_loop(2), sized_loop(31))
        expect_kept(self, TooMany, "limit", 60, rest, sized_loop(8), eight)
        expect_kept(self, NotLone, "text", "aa", rest, SOME, sized_loop(31, "ab"))
        self.assertIs(is_within(sized_loop(60), sized_loop(1)), True)
        self.assertIs(is_within(sized_loop(7), eight), False)

    def test_too_wide_for_a_paper(self):
        self.assertEqual(within_paper(sized_loop(30), sized_loop(1))[0], "space")
        self.assertEqual(within_paper(sized_loop(6), sized_loop(9))[0], "text")
        expect_kept(self, TooMany, "limit", 60, within_paper, sized_loop(31), sized_loop(1))
        expect_kept(self, TooMany, "limit", 60, within_paper, sized_loop(7), sized_loop(8))
        loop, one = sized_loop(31), sized_loop(1)
        rows = [tuple(int(state == at) for state in range(31)) * 2 for at in range(31)]
        self.assertIs(is_within_paper(loop, one, ("space", tuple(rows))), True)
        self.assertIs(is_within_paper(loop, one, ("space", tuple(rows[1:]))), False)

    def test_great_readers(self):
        told = random.Random(54)
        arrows = tuple(arrow for arrow in full_reader("abcd", 60).arrows if told.random() < 0.3)
        reader = Reader("abcd", 60, tuple(range(60)), tuple(range(60)), arrows)
        every = Reader("abcd", 1, (0,), (0,), tuple((0, letter, 0) for letter in "abcd"))
        self.assertIs(is_within(reader, every), True)
        self.assertIsNone(outside(reader, every))
        self.assertIs(is_nearly_within(reader, every.with_ends(lasts=())), False)

    def test_arguments_stay(self):
        one, other = Reader("ab", 2, (0,), (1,), SOME.arrows), Reader("ab", 2, (0,), (1,), ODD.arrows)
        for _ in range(2):
            self.assertEqual([outside(one, other), within_paper(one, other), is_nearly_within(one, other)],
                             ["aa", ("text", "aa"), False])
        self.assertEqual([one, other], [SOME, ODD])


if __name__ == "__main__":
    unittest.main()
