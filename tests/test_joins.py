"""One text behind another one."""

import random
import unittest
from itertools import islice

from loneguess.build import joins as module
from loneguess.build.joins import again, chains, cuts, join, twice_chained, twice_cut
from loneguess.errors import InvalidOperation, InvalidReader, InvalidText, NotLone, TooMany
from loneguess.read import ways
from loneguess.read.lone import is_lone
from loneguess.read.made import beside
from loneguess.read.readers import Reader
from loneguess.read.ways import count_ways
from tests.brute import all_chains, all_cuts, all_ways, first_twice_chained, first_twice_cut, reads, texts_up_to
from tests.checks import expect, expect_kept
from tests.examples import run_examples
from tests.values import BEFORE, ENDA, EVERY, NOTHING, ODD, SOME
from tests.values import full_reader, kinds_but, sized_loop, some_lone_readers

EXAMPLES = """
>>> few = Reader.of_texts("ab", ("ba", "", "b"))
>>> code = Reader.of_texts("abc", ("a", "c", "abb", "cbc", "bbcb"))
>>> [twice_cut(code, code), twice_chained(code), list(chains(code, "abbcbc")), count_ways(again(code), "abbcbc"), list(chains(code, ""))]
[None, 'abbcbc', [(1, 5), (3,)], 2, [()]]
>>> [cuts(ENDA, ODD, "aab"), twice_cut(ENDA, ODD), count_ways(join(ENDA, ODD), "aaaa"), cuts(EVERY, EVERY, "ab"), len(again(ENDA)), twice_cut(ENDA, few)]
[(1,), 'aaaa', 2, (0, 1, 2), 3, 'aba']
"""
FEW = Reader.of_texts("ab", ("ba", "", "b"))
EMPTY = Reader.of_texts("ab", ("",))
CODE = Reader.of_texts("ab", ("a", "ba", "bb"))
# Several first states, and last states from which arrows lead on.
WIDE = Reader("ab", 3, (0, 1), (0, 2), ((0, "a", 2), (1, "b", 2), (2, "a", 2)))
LONE = [*some_lone_readers(90, 30, 3), ODD, ENDA, BEFORE, EVERY, NOTHING, FEW, EMPTY, CODE, WIDE, SOME.with_ends(firsts=()),
        SOME.with_ends(lasts=()), Reader("ab", 1, (0,), (), ((0, "a", 0),)), Reader("ab", 1, (), (0,), ((0, "a", 0),))]
PAIRS = [(one, other) for one in LONE for other in LONE]
TEXTS = texts_up_to("ab", 5)
MANY = [("abc", some_lone_readers(91, 12, 3, "abc")), ("a", some_lone_readers(92, 12, 3, "a"))]


def told_join(one, other):
    """The join, as it is told."""
    many = len(one)
    arrows = {*one.arrows, *((many + p, x, many + q) for p, x, q in other.arrows)}
    arrows |= {(p, x, many + q) for p in one.lasts for i, x, q in other.arrows if i in other.firsts}
    lasts = ({p for p in one.lasts} if reads(other, "") else set()) | {many + q for q in other.lasts}
    return Reader(one.letters, many + len(other), one.firsts, tuple(sorted(lasts)), tuple(sorted(arrows)))


def told_again(reader):
    """The reader of chains, as it is told."""
    many = len(reader)
    arrows = set()
    for p, x, q in reader.arrows:
        arrows.add((p, x, q))
        arrows |= {(many, x, q)} if p in reader.firsts else set()
        arrows |= {(p, x, many)} if q in reader.lasts else set()
        arrows |= {(many, x, many)} if p in reader.firsts and q in reader.lasts else set()
    return Reader(reader.letters, many + 1, (many,), (many,), tuple(sorted(arrows)))


def waiting_for(start, size, letter, last):
    """A lone reader of the start and then some letters, whose number is a multiple of the size, and the last text."""
    arrows = [(at, sign, at + 1) for at, sign in enumerate(start)]
    arrows += [(len(start) + at, letter, len(start) + (at + 1) % size) for at in range(size)]
    end = len(start) + size
    if last:
        return Reader("abc", end + 1, (0,), (end,), tuple(sorted([*arrows, (len(start), last, end)])))
    return Reader("abc", end, (0,), (len(start),), tuple(sorted(arrows)))


class MadeTests(unittest.TestCase):
    def test_examples(self):
        run_examples(self, EXAMPLES, module, ways)

    def test_join_is_as_told(self):
        for one, other in PAIRS:
            self.assertEqual(join(one, other), told_join(one, other))

    def test_again_is_as_told(self):
        for reader in LONE:
            self.assertEqual(again(reader), told_again(reader))

    def test_states_of_a_join(self):
        found = join(ENDA, FEW)
        self.assertEqual([len(found), found.firsts, found.lasts], [5, (0,), (1, 2, 3, 4)])
        self.assertEqual(join(ENDA, ODD).lasts, (3,))
        self.assertEqual(join(ENDA, ODD).arrows,
                         ((0, "a", 0), (0, "a", 1), (0, "b", 0), (1, "a", 3), (1, "b", 2),
                          (2, "a", 3), (2, "b", 2), (3, "a", 2), (3, "b", 3)))
        self.assertEqual(again(ENDA).arrows,
                         ((0, "a", 0), (0, "a", 1), (0, "a", 2), (0, "b", 0), (2, "a", 0), (2, "a", 1), (2, "a", 2), (2, "b", 0)))
        self.assertEqual([again(ENDA).firsts, again(ENDA).lasts], [(2,), (2,)])

    def test_ways_of_a_join_are_cuts(self):
        for one, other in PAIRS[::7]:
            found = join(one, other)
            for text in TEXTS:
                self.assertEqual(count_ways(found, text), len(all_cuts(one, other, text)))
                self.assertEqual(len(all_ways(found, text)), len(all_cuts(one, other, text)))

    def test_ways_of_again_are_chains(self):
        for reader in LONE:
            found = again(reader)
            for text in TEXTS:
                self.assertEqual(count_ways(found, text), len(all_chains(reader, text)))

    def test_without_first_or_last_states(self):
        for one in (NOTHING, SOME.with_ends(firsts=()), SOME.with_ends(lasts=())):
            for other in (one, ODD, EVERY, EMPTY):
                for found in (join(one, other), join(other, one)):
                    self.assertFalse(any(text in found for text in TEXTS))
            self.assertEqual([text for text in TEXTS if text in again(one)], [""])
            self.assertEqual([again(one).firsts, again(one).lasts], [(len(one),)] * 2)

    def test_the_empty_text(self):
        self.assertEqual(join(EMPTY, EMPTY), Reader("ab", 2, (0,), (0, 1), ()))
        self.assertEqual([text for text in TEXTS if text in join(EMPTY, FEW)], ["", "b", "ba"])
        self.assertEqual([text for text in TEXTS if text in join(FEW, EMPTY)], ["", "b", "ba"])
        self.assertEqual([text for text in TEXTS if text in again(EMPTY)], [""])
        for reader in LONE:
            self.assertEqual(count_ways(again(reader), ""), 1)

    def test_many_states(self):
        for one, other in ((30, 30), (59, 1), (1, 59), (31, 29)):
            found = join(sized_loop(one), sized_loop(other))
            self.assertEqual(len(found), 60)
            self.assertEqual(found, told_join(sized_loop(one), sized_loop(other)))
        for one, other in ((30, 31), (31, 30), (60, 1), (1, 60), (60, 60)):
            for call in (join, twice_cut):
                expect_kept(self, TooMany, "limit", 60, call, sized_loop(one), sized_loop(other))
        for size in (1, 30, 31, 58, 59):
            self.assertEqual(again(sized_loop(size)), told_again(sized_loop(size)))
            self.assertEqual(twice_chained(sized_loop(size)), first_twice_chained(sized_loop(size)))
        for call in (again, twice_chained):
            expect_kept(self, TooMany, "limit", 60, call, sized_loop(60))


class CutTests(unittest.TestCase):
    def test_cuts(self):
        for one, other in PAIRS[::3]:
            for text in TEXTS:
                self.assertEqual(cuts(one, other, text), all_cuts(one, other, text))
        for letters, readers in MANY:
            for one, other in zip(readers, readers[1:]):
                for text in texts_up_to(letters, 4):
                    self.assertEqual(cuts(one, other, text), all_cuts(one, other, text))

    def test_edges(self):
        self.assertEqual([cuts(EVERY, EVERY, ""), cuts(EMPTY, EMPTY, ""), cuts(ODD, EVERY, ""), cuts(EMPTY, ODD, "a")],
                         [(0,), (0,), (), (0,)])
        self.assertEqual([cuts(ODD, EMPTY, "a"), cuts(ODD, ODD, "ab"), cuts(NOTHING, EVERY, "ab")], [(1,), (), ()])
        self.assertEqual(cuts(EVERY, EVERY, "ab" * 2000), tuple(range(4001)))
        self.assertEqual(cuts(sized_loop(60), sized_loop(60), "a" * 118), (59,))

    def test_chains(self):
        for reader in LONE:
            for text in TEXTS:
                self.assertEqual(list(chains(reader, text)), all_chains(reader, text))
        for letters, readers in MANY:
            for reader in readers:
                for text in texts_up_to(letters, 4):
                    self.assertEqual(list(chains(reader, text)), all_chains(reader, text))

    def test_chains_of_long_texts(self):
        told = random.Random(93)
        for reader in (EVERY, ENDA, ODD, CODE, FEW, BEFORE):
            for _ in range(3):
                text = "".join(told.choice("aab") for _ in range(12))
                self.assertEqual(list(chains(reader, text)), all_chains(reader, text))
        self.assertEqual(list(islice(chains(EVERY, "a" * 1000), 3)), [(), (1,), (1, 2)])
        self.assertEqual(list(islice(chains(EVERY, "a" * 600), 602))[601], tuple([*range(1, 597), 598]))
        self.assertEqual(list(chains(CODE, "ba" * 500)), [tuple(range(2, 1000, 2))])
        self.assertEqual(list(chains(CODE, "ab" * 500)), [])

    def test_chains_of_the_empty_text(self):
        for reader in LONE:
            self.assertEqual(list(chains(reader, "")), [()])
        self.assertEqual([list(chains(reader, "a")) for reader in (NOTHING, EMPTY, EVERY)], [[], [], [()]])


class TwiceTests(unittest.TestCase):
    def test_twice_cut(self):
        found = []
        for one, other in PAIRS:
            text = first_twice_cut(one, other)
            self.assertEqual(twice_cut(one, other), text)
            self.assertIs(is_lone(join(one, other)), text is None)
            found.append(text)
        self.assertGreater(found.count(None), 100)
        self.assertTrue([text for text in found if text and len(text) > 3])

    def test_twice_chained(self):
        found = []
        for reader in [*LONE, *some_lone_readers(94, 200, 4)]:
            text = first_twice_chained(reader)
            self.assertEqual(twice_chained(reader), text)
            self.assertIs(is_lone(again(reader)), text is None)
            found.append(text)
        self.assertGreater(found.count(None), 20)
        self.assertTrue([text for text in found if text and len(text) > 3])

    def test_by_all_short_texts(self):
        for one, other in PAIRS[::5]:
            texts = [text for text in TEXTS if len(all_cuts(one, other, text)) > 1]
            found = twice_cut(one, other)
            self.assertEqual(texts[:1], [found] if found is not None and len(found) <= 5 else [])
        for reader in LONE:
            texts = [text for text in TEXTS if len(all_chains(reader, text)) > 1]
            found = twice_chained(reader)
            self.assertEqual(texts[:1], [found] if found is not None and len(found) <= 5 else [])

    def test_long_first_texts(self):
        # "b", then a number of "a" that is 0 by seven; one more than 0 by eight, and then "c".
        one, other = waiting_for("b", 7, "a", ""), waiting_for("a", 8, "a", "c")
        text = "b" + "a" * 57 + "c"
        self.assertEqual([twice_cut(one, other), cuts(one, other, text)], [text, (1, 57)])
        self.assertEqual([twice_chained(beside(one, other)), list(chains(beside(one, other), text))], [text, [(1,), (57,)]])
        loops = sized_loop(13).with_ends(lasts=(0,)), sized_loop(17).with_ends(lasts=(0,))
        self.assertEqual(twice_cut(*loops), "a" * (13 * 17))

    def test_none(self):
        for reader in (CODE, EMPTY, NOTHING, Reader.of_texts("ab", ("ab", "abb", "abbb"))):
            self.assertIs(twice_chained(reader), None)
        self.assertEqual(twice_chained(Reader.of_texts("ab", ("a", "ab", "b"))), "ab")
        self.assertEqual([twice_cut(EMPTY, EVERY), twice_cut(CODE, EVERY), twice_cut(EVERY, EMPTY), twice_cut(EVERY, EVERY)],
                         [None, None, None, "a"])


class ErrorTests(unittest.TestCase):
    two = (join, twice_cut, lambda one, other: cuts(one, other, "a"))
    one = (again, twice_chained, lambda reader: next(chains(reader, "a")))

    def test_no_readers(self):
        for value in kinds_but(Reader):
            for call in self.two:
                expect(self, InvalidReader, call, value, ODD)
                expect(self, InvalidReader, call, ODD, value)
                expect(self, InvalidReader, call, value, None)
                expect(self, InvalidReader, call, SOME, value)
            for call in self.one:
                expect(self, InvalidReader, call, value)
            expect(self, InvalidReader, cuts, value, None, None)
            expect(self, InvalidReader, cuts, SOME, value, None)

    def test_other_letters(self):
        for call in self.two:
            expect(self, InvalidOperation, call, ODD, ODD.over("abc"))
            expect(self, InvalidOperation, call, SOME, SOME.over("abc"))
            expect(self, InvalidOperation, call, full_reader("abc", 60), full_reader("ab", 60))

    def test_not_lone(self):
        two = full_reader("ab", 2)
        for call in self.two:
            expect_kept(self, NotLone, "text", "aa", call, SOME, ODD)
            expect_kept(self, NotLone, "text", "aa", call, ODD, SOME)
            expect_kept(self, NotLone, "text", "aa", call, SOME, two)
            expect_kept(self, NotLone, "text", "", call, two, SOME)
            expect_kept(self, NotLone, "text", "", call, full_reader("ab", 60), SOME)
            expect_kept(self, NotLone, "text", "aa", call, beside(sized_loop(30, "ab"), SOME), sized_loop(60, "ab"))
        for call in self.one:
            expect_kept(self, NotLone, "text", "aa", call, SOME)
            expect_kept(self, NotLone, "text", "", call, full_reader("ab", 60))

    def test_texts(self):
        for text in [*kinds_but(str), "c", "abc", "A", " ", "~" * 4000]:
            expect(self, InvalidText, cuts, ODD, ENDA, text)
            expect(self, InvalidText, cuts, SOME, ODD.over("abc"), text)
            expect(self, InvalidText, lambda value: next(chains(ODD, value)), text)
            expect(self, InvalidText, lambda value: next(chains(SOME, value)), text)
        expect(self, InvalidOperation, cuts, ODD.over("abc"), ODD, "c")

    def test_a_generator_raises_at_its_first_element(self):
        for arguments, error in (((None, "a"), InvalidReader), ((ODD, "c"), InvalidText), ((SOME, "a"), NotLone), ((SOME, 3), InvalidText)):
            started = chains(*arguments)
            expect(self, error, next, started)

    def test_arguments_stay(self):
        for _ in range(2):
            self.assertEqual([cuts(ENDA, ODD, "aab"), twice_cut(ENDA, ODD), join(ENDA, ODD) == told_join(ENDA, ODD)], [(1,), "aaaa", True])


if __name__ == "__main__":
    unittest.main()
