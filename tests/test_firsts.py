"""First ways."""

import unittest

from loneguess.build import firsts as module
from loneguess.build.firsts import careful, lone_of
from loneguess.count import within
from loneguess.errors import InvalidReader, TooMany
from loneguess.read import lone, made, rows, ways
from loneguess.read.lone import is_lone
from loneguess.read.made import beside, turned
from loneguess.read.readers import Reader
from loneguess.read.ways import first_way
from tests.brute import all_careful, all_ways, texts_up_to
from tests.checks import expect, expect_kept
from tests.examples import run_examples
from tests.values import BEFORE, ENDA, EVERY, NOTHING, ODD, SOME, full_reader, kinds_but, sized_loop, some_readers

EXAMPLES = """
>>> [careful(SOME), lone_of(SOME).arrows, careful(ENDA), lone_of(ENDA) == ENDA, first_way(SOME, "aab"), first_way(lone_of(SOME), "aab")]
[((0, ()), (1, (0,))), ((0, 'a', 0), (0, 'a', 1), (0, 'b', 0), (1, 'b', 1)), ((0, ()), (1, (0,))), True, (0, 0, 1, 1), (0, 0, 1, 1)]
>>> [is_lone(lone_of(beside(ODD, ENDA))), is_within(beside(ODD, ENDA), lone_of(beside(ODD, ENDA))), totals(lone_of(beside(ODD, ENDA)), 4)]
[True, True, (0, 1, 3, 6)]
"""
WIDE = Reader("abc", 4, (0, 1, 3), (1, 2, 3), ((0, "a", 1), (0, "a", 2), (0, "c", 3), (1, "a", 0), (1, "a", 2), (2, "b", 1), (3, "a", 3), (3, "c", 0)))
ANY = [*some_readers(110, 120, 4), *some_readers(111, 20, 4, "abc"), *some_readers(112, 20, 5, "a"), ODD, ENDA, BEFORE, SOME, EVERY,
       NOTHING, WIDE, SOME.with_ends(firsts=()), SOME.with_ends(lasts=()), SOME.with_ends(firsts=(0, 1), lasts=(0, 1)),
       beside(ODD, ENDA), beside(BEFORE, SOME), turned(BEFORE), full_reader("ab", 3), Reader.of_texts("ab", ("", "abb"))]


def forked(size):
    """A reader with so many careful states, one more than it has states."""
    # Two states that come one after the other, beside one that stays: the latter has two sets of earlier ones.
    arrows = [(0, "a", 1), (1, "a", 0), (2, "a", 2), (0, "b", 3)]
    arrows += [(state, "b", state + 1) for state in range(3, size - 2)]
    return Reader("ab", size - 1, (0, 2), (2,), tuple(sorted(arrows)))


class FirstsTests(unittest.TestCase):
    def test_examples(self):
        run_examples(self, EXAMPLES, module, lone, made, rows, ways, within)

    def test_careful_states_as_told(self):
        for reader in ANY:
            self.assertEqual(careful(reader), all_careful(reader)[0])

    def test_lone_readers_as_told(self):
        for reader in ANY:
            found, arrows = all_careful(reader)
            lasts = tuple(at for at, (state, earlier) in enumerate(found)
                          if state in reader.lasts and not any(other in reader.lasts for other in earlier))
            wanted = Reader(reader.letters, max(1, len(found)), tuple(range(len(reader.firsts))), lasts, arrows)
            self.assertEqual(lone_of(reader), wanted)

    def test_lone_and_the_same_texts(self):
        for reader in ANY:
            found = lone_of(reader)
            self.assertIs(is_lone(found), True)
            for text in texts_up_to(reader.letters, 6 if len(reader.letters) < 3 else 4):
                self.assertEqual(len(all_ways(found, text)), int(bool(all_ways(reader, text))))

    def test_first_ways(self):
        many = 0
        for reader in ANY:
            found, states = lone_of(reader), careful(reader)
            for text in texts_up_to(reader.letters, 5 if len(reader.letters) < 3 else 3):
                way = first_way(found, text)
                if way is not None:
                    self.assertEqual(tuple(states[at][0] for at in way), all_ways(reader, text)[0])
                    many += len(all_ways(reader, text)) > 1
        self.assertGreater(many, 100)

    def test_without_first_states(self):
        for reader in (NOTHING, SOME.with_ends(firsts=()), full_reader("abcd", 60).with_ends(firsts=())):
            self.assertEqual(careful(reader), ())
            self.assertEqual(lone_of(reader), Reader(reader.letters, 1, (), (), ()))

    def test_without_last_states(self):
        reader = SOME.with_ends(lasts=())
        self.assertEqual(careful(reader), careful(SOME))
        self.assertEqual(lone_of(reader), Reader("ab", 2, (0,), (), lone_of(SOME).arrows))

    def test_the_order_of_the_states(self):
        self.assertEqual(careful(WIDE)[:3], ((0, ()), (1, (0,)), (3, (0, 1))))
        reader = Reader("ab", 4, (2,), (), ((0, "b", 2), (2, "a", 3), (2, "b", 0), (2, "b", 1), (3, "a", 0)))
        self.assertEqual(careful(reader), ((2, ()), (3, ()), (0, ()), (1, (0,))))
        # State 1 of the second first state is left out, for the first one leads there, too.
        reader = Reader("a", 3, (0, 1), (2,), ((0, "a", 1), (1, "a", 1), (1, "a", 2)))
        self.assertEqual(careful(reader), ((0, ()), (1, (0,)), (1, ()), (2, (1,))))

    def test_lone_readers_stay_small(self):
        for reader in (sized_loop(60), sized_loop(60, "abcd"), sized_loop(1)):
            self.assertEqual(lone_of(reader), reader)
            self.assertEqual(careful(reader), tuple((state, ()) for state in range(len(reader))))

    def test_sixty_careful_states(self):
        for size in (10, 59, 60):
            self.assertEqual(len(forked(size)), size - 1)
            self.assertEqual(len(careful(forked(size))), size)
            self.assertEqual(careful(forked(size)), all_careful(forked(size))[0])
            self.assertEqual(len(lone_of(forked(size))), size)
        self.assertEqual([len(forked(61)), len(all_careful(forked(61))[0])], [60, 61])
        loops = beside(sized_loop(30), sized_loop(30))
        self.assertEqual(len(careful(loops)), 60)
        great = Reader("ab", 60, (0,), (59,), tuple(sorted([(0, "a", 0), (0, "b", 0)] + [
            (at, letter, at + 1) for at in range(59) for letter in "ab" if at or letter == "a"])))
        for reader in (forked(61), beside(sized_loop(29), sized_loop(31)), great, full_reader("abcd", 60).with_ends(firsts=(0,)), turned(great)):
            if len(all_careful(reader, 60)[0]) > 60:
                for call in (careful, lone_of):
                    expect_kept(self, TooMany, "limit", 60, call, reader)
            else:
                self.assertEqual(careful(reader), all_careful(reader)[0])

    def test_no_readers(self):
        for value in kinds_but(Reader):
            for call in (careful, lone_of):
                expect(self, InvalidReader, call, value)

    def test_arguments_stay(self):
        for _ in range(2):
            self.assertEqual([careful(SOME), lone_of(ENDA) == ENDA], [((0, ()), (1, (0,))), True])


if __name__ == "__main__":
    unittest.main()
