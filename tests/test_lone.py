"""Lone readers, and the papers that show whether a reader is one."""

import time
import unittest

from loneguess.errors import InvalidReader
from loneguess.read import lone as module
from loneguess.read.lone import ending, is_lone, is_lone_paper, lone_paper, meeting, two_ways
from loneguess.read.made import behind, beside, both, trimmed, turned
from loneguess.read.readers import Reader
from loneguess.read.ways import count_ways, is_way
from tests.brute import all_ways, pairs_from, texts_up_to
from tests.checks import expect
from tests.examples import run_examples
from tests.values import BEFORE, ENDA, EVERY, NOTHING, ODD, SOME, TOO_LONG, full_reader, kinds, sized_loop, some_readers

EXAMPLES = """
>>> [is_lone(BEFORE), is_lone(SOME), two_ways(SOME), two_ways(ENDA), meeting(ENDA), ending(ENDA), ending(ODD)]
[True, False, 'aa', None, ((0, 0), (0, 1), (1, 1)), ((0, 0), (1, 1)), ((0, 0), (1, 1))]
>>> [is_lone_paper(SOME, ("two", "aa", (0, 0, 1), (0, 1, 1))), is_lone_paper(ENDA, ("one", meeting(ENDA), ending(ENDA))), is_lone_paper(ENDA, ("one", ((0, 0),), ((1, 1),))), lone_paper(SOME)[0]]
[True, True, False, 'two']
"""
READERS = [*some_readers(12, 150, size=3), *some_readers(13, 40, size=3, letters="abc", share=0.2), ODD, ENDA, BEFORE,
           SOME, EVERY, NOTHING, SOME.with_ends(firsts=()), full_reader("ab", 2)]


def first_with_two(reader):
    """The first text with two ways, searched among all; readers have at most three states."""
    for text in texts_up_to(reader.letters, 5):
        if len(all_ways(reader, text)) > 1:
            return text
    return None


def pairs_of(size):
    """All pairs of so many states, the smaller one first."""
    return tuple((one, other) for one in range(size) for other in range(one, size))


class LoneTests(unittest.TestCase):
    def test_examples(self):
        run_examples(self, EXAMPLES, module)

    def test_two_ways(self):
        for reader in READERS:
            wanted = first_with_two(reader)
            self.assertEqual(two_ways(reader), wanted)
            self.assertIs(is_lone(reader), wanted is None)

    def test_both_answers_come_up(self):
        answers = [is_lone(reader) for reader in READERS]
        self.assertGreater(answers.count(True), 30)
        self.assertGreater(answers.count(False), 30)

    def test_two_ways_of_the_empty_text(self):
        self.assertEqual(two_ways(Reader("ab", 2, (0, 1), (0, 1), ())), "")
        self.assertIsNone(two_ways(Reader("ab", 2, (0, 1), (1,), ())))

    def test_shorter_texts_come_first(self):
        # By "a" two ways part that meet again behind "aa"; by "b" those of "bz" come to two ends.
        arrows = ((0, "a", 1), (0, "a", 2), (0, "b", 1), (0, "b", 3), (1, "a", 4), (1, "z", 4), (2, "b", 5), (3, "z", 4),
                  (5, "a", 4))
        self.assertEqual(two_ways(Reader("abz", 6, (0,), (4,), arrows)), "bz")

    def test_the_first_one_of_a_length(self):
        # Both parting states are come to by one text, the later one of them by the earlier letter.
        arrows = ((0, "a", 1), (0, "a", 2), (1, "b", 3), (1, "b", 4), (2, "a", 3), (2, "a", 4))
        self.assertEqual(two_ways(Reader("ab", 5, (0,), (3, 4), arrows)), "aa")

    def test_ways_that_part_and_come_together_again(self):
        arrows = ((0, "a", 1), (0, "a", 2), (1, "b", 3), (2, "b", 3), (3, "a", 3))
        self.assertEqual(two_ways(Reader("ab", 5, (0,), (3,), arrows)), "ab")
        self.assertEqual(two_ways(Reader("ab", 5, (0,), (4,), (*arrows, (3, "b", 4)))), "abb")

    def test_long_texts_with_two_ways(self):
        side = beside(sized_loop(29), sized_loop(31))
        self.assertEqual(two_ways(side), "a" * 898)
        self.assertIs(is_lone_paper(side, lone_paper(side)), True)
        self.assertIsNone(two_ways(beside(sized_loop(30), sized_loop(30).with_ends(lasts=(4,)))))

    def test_sixty_states(self):
        self.assertEqual(two_ways(full_reader("abcd", 60)), "")
        self.assertEqual(two_ways(full_reader("abcd", 60).with_ends(firsts=(0,), lasts=(59,))), "aa")
        for reader in (full_reader("abcd", 60).with_ends(lasts=()), sized_loop(60, "abcd")):
            self.assertIs(is_lone(reader), True)
            self.assertIs(is_lone_paper(reader, lone_paper(reader)), True)

    def test_what_stays_lone(self):
        lones = [reader for reader in READERS if is_lone(reader) and reader.letters == "ab"]
        for one, other in zip(lones, lones[1:]):
            for reader in (turned(one), behind(one, "ab"), trimmed(one), both(one, other)):
                self.assertIs(is_lone(reader), True)


class PairTests(unittest.TestCase):
    def test_meeting_and_ending(self):
        for reader in [*READERS, *some_readers(14, 20, size=6)]:
            back = tuple((other, letter, one) for one, letter, other in reader.arrows)
            self.assertEqual(meeting(reader), pairs_from(reader.firsts, reader.arrows))
            self.assertEqual(ending(reader), pairs_from(reader.lasts, back))

    def test_lone_exactly_if_no_unlike_states_are_in_both(self):
        for reader in READERS:
            shared = [pair for pair in meeting(reader) if pair in ending(reader) and pair[0] != pair[1]]
            self.assertIs(is_lone(reader), shared == [])

    def test_at_the_edges(self):
        for reader in (NOTHING, full_reader("abcd", 60).with_ends(firsts=(), lasts=())):
            self.assertEqual((meeting(reader), ending(reader)), ((), ()))
        self.assertEqual(meeting(full_reader("abcd", 60)), pairs_of(60))
        self.assertEqual(ending(full_reader("a", 60)), pairs_of(60))
        chain = Reader("a", 60, (0, 1), (58, 59), tuple((state, "a", state + 1) for state in range(59)))
        near = tuple((one, other) for one, other in pairs_of(60) if other - one < 2)
        self.assertEqual((meeting(chain), ending(chain)), (near, near))


class PaperTests(unittest.TestCase):
    def refused(self, reader, *values):
        for value in values:
            with self.subTest(str(value)[:80]):
                self.assertIs(is_lone_paper(reader, value), False)

    def test_own_papers(self):
        for reader in READERS:
            paper = lone_paper(reader)
            self.assertIs(is_lone_paper(reader, paper), True)
            self.assertEqual((paper[0], len(paper)), ("one", 3) if is_lone(reader) else ("two", 4))
            if paper[0] == "two":
                self.assertNotEqual(paper[2], paper[3])
                self.assertTrue(is_way(reader, paper[1], paper[2]) and is_way(reader, paper[1], paper[3]))

    def test_papers_of_two_ways(self):
        for reader in READERS:
            for text in texts_up_to("ab", 3):
                ways = all_ways(reader, text)
                for one in ways[:3]:
                    for other in ways[:3]:
                        self.assertIs(is_lone_paper(reader, ("two", text, one, other)), one != other)

    def test_long_texts(self):
        for size, wanted in ((3999, True), (4000, True), (4001, False)):
            value = ("two", "a" * size, (0,) * size + (1,), (0,) * (size - 1) + (1, 1))
            self.assertIs(is_lone_paper(SOME, value), wanted)
        self.assertGreater(count_ways(SOME, "a" * 4001), 1)

    def test_a_text_with_very_many_ways(self):
        arrows = []
        for state in range(0, 57, 3):
            arrows += [(state, "a", state + 1), (state, "a", state + 2)]
            arrows += [(state + 1, "a", state + 3), (state + 2, "a", state + 3)]
        reader = Reader("a", 60, (0,), (57,), tuple(sorted(arrows)))
        self.assertEqual(count_ways(reader, "a" * 38), 2 ** 19)
        start = time.monotonic()
        self.assertEqual(lone_paper(reader)[:2], ("two", "a" * 38))
        self.assertLess(time.monotonic() - start, 5)

    def test_wrong_papers_of_two_ways(self):
        one, other = (0, 0, 1), (0, 1, 1)
        self.assertIs(is_lone_paper(SOME, ("two", "aa", other, one)), True)
        self.refused(SOME, ("two", "aa", one, one), ("two", "ab", one, other), ("two", "aac", one, other),
                     ("two", "aaa", one, other), ("two", "", (0,), (1,)), ("two", "aa", one, list(other)),
                     ("two", "aa", list(one), other), ("two", "aa", one, (0, True, 1)), ("two", "aa", (False, 0, 1), other),
                     ("two", "aa", one, (0, 1, 2)), ("two", "aa", one, (0, 1, 0)), ("two", "aa", one, (1, 1, 1)),
                     ("two", "aa", one), ("two", "aa", one, other, ()), ["two", "aa", one, other], ("Two", "aa", one, other),
                     ("one", "aa", one, other), (2, "aa", one, other), ("two", None, one, other), ("two", ("a", "a"), one, other),
                     ("two", "aa", None, other), ("two", "aa", one, (0, 1, TOO_LONG)), (("two",), "aa", one, other))
        self.refused(ODD, ("two", "a", (0, 1), (0, 1)), ("two", "aa", one, other))

    def test_greater_sets(self):
        # State 2 is on no way, so any pairs with it may be met; state 0 is not ended from.
        reader = Reader("ab", 3, (0,), (1,), ((0, "a", 1),))
        self.assertEqual(lone_paper(reader), ("one", ((0, 0), (1, 1)), ((0, 0), (1, 1))))
        for meets, ends in ((((0, 0), (1, 1), (2, 2)), ((0, 0), (1, 1))), (((0, 0), (0, 1), (0, 2), (1, 1)), ((0, 0), (1, 1))),
                            (((0, 0), (1, 1)), pairs_of(3)), (pairs_of(3), ((0, 0), (1, 1), (2, 2)))):
            self.assertIs(is_lone_paper(reader, ("one", meets, ends)), True)
        self.refused(reader, ("one", pairs_of(3), pairs_of(3)), ("one", ((0, 0), (0, 1), (1, 1)), ((0, 0), (0, 1), (1, 1))))

    def test_all_sets_of_pairs_of_two_states(self):
        pairs = pairs_of(2)
        sets = [tuple(pair for at, pair in enumerate(pairs) if mask >> at & 1) for mask in range(8)]
        for reader in [*some_readers(15, 80, size=2, share=0.4), ODD, ENDA, SOME]:
            back = [(other, letter, one) for one, letter, other in reader.arrows]
            if len(reader) == 2:
                for meets in sets:
                    for ends in sets:
                        wanted = (holds(meets, reader.firsts, reader.arrows) and holds(ends, reader.lasts, back)
                                  and not ((0, 1) in meets and (0, 1) in ends))
                        self.assertIs(is_lone_paper(reader, ("one", meets, ends)), wanted)

    def test_wrong_papers_of_one_way(self):
        meets, ends = meeting(ENDA), ending(ENDA)
        self.refused(ENDA, ("one", meets), ("one", meets, ends, ()), ["one", meets, ends], ("one", list(meets), ends),
                     ("one", meets, list(ends)), ("two", meets, ends), ("One", meets, ends), ("one", ends, meets),
                     ("one", ((0, 0), (1, 1), (0, 1)), ends), ("one", ((0, 0), (0, 1), (0, 1), (1, 1)), ends),
                     ("one", ((0, 0), (0, 1), (1, 0), (1, 1)), ends), ("one", (*meets, (1, 2)), ends),
                     ("one", ((-1, 0), *meets), ends), ("one", ((0, 0), (0, True), (1, 1)), ends),
                     ("one", ((False, 0), (0, 1), (1, 1)), ends), ("one", ([0, 0], (0, 1), (1, 1)), ends),
                     ("one", ((0, 0), (0, 1), (1,)), ends), ("one", ((0, 0), (0, 1), (1, 1, 1)), ends),
                     ("one", ((0, 0), (0, 1), "11"), ends), ("one", ((0, 0), (0, 1), None), ends), ("one", None, ends),
                     ("one", meets, None), ("one", meets, {}), ("one", "", ""), ("one", (), ()), ("one", meets, ()),
                     ("one", (), ends), ("one", meets, (*ends, (1, TOO_LONG))))
        for pair in meets:
            self.refused(ENDA, ("one", tuple(other for other in meets if other != pair), ends))
        for pair in ends:
            self.refused(ENDA, ("one", meets, tuple(other for other in ends if other != pair)))
        self.refused(SOME, ("one", meeting(SOME), ending(SOME)), ("one", ((0, 0),), ((1, 1),)), ("one", (), ()))

    def test_values_of_every_kind(self):
        for reader in (ODD, SOME, NOTHING):
            for value in kinds():
                self.refused(reader, value, ("one", value, value), ("two", value, value, value), ("two", "aa", value, (0, 0, 1)))
            self.refused(reader, (reader, (), ()), (reader, "aa", (0, 0, 1), (0, 1, 1)))
        self.assertIs(is_lone_paper(NOTHING, ("one", (), ())), True)


def holds(pairs, starts, arrows):
    """Whether a set of pairs has those of these states, and those to which arrows lead from it."""
    if any((one, other) not in pairs for one in starts for other in starts if one <= other):
        return False
    for one, other in pairs:
        for state, letter, to in arrows:
            for second, same, into in arrows:
                if (state, second, letter) == (one, other, same) and (min(to, into), max(to, into)) not in pairs:
                    return False
    return True


class ErrorTests(unittest.TestCase):
    def test_no_reader(self):
        for value in [*kinds(), "ab", ("ab", 1, (), (), ())]:
            if not isinstance(value, Reader):
                for call in (is_lone, two_ways, meeting, ending, lone_paper):
                    expect(self, InvalidReader, call, value)
                expect(self, InvalidReader, is_lone_paper, value, ("one", (), ()))
                expect(self, InvalidReader, is_lone_paper, value, value)

    def test_arguments_stay(self):
        reader = Reader("ab", 2, (0,), (1,), SOME.arrows)
        for call in (is_lone, two_ways, meeting, ending, lone_paper):
            self.assertEqual(call(reader), call(reader))
        self.assertEqual(reader, SOME)


if __name__ == "__main__":
    unittest.main()
