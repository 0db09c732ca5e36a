"""Ways: counted, listed, the first one, judged."""

import time
import unittest
from itertools import islice, product

from loneguess.errors import InvalidReader, InvalidText
from loneguess.read import ways as module
from loneguess.read.readers import Reader
from loneguess.read.ways import count_ways, first_way, is_way, reached, ready, ways
from tests.brute import all_ways, texts_up_to
from tests.checks import expect
from tests.examples import run_examples
from tests.values import BEFORE, ENDA, EVERY, NOTHING, ODD, SOME, TOO_LONG, full_reader, kinds, some_readers

EXAMPLES = """
>>> [count_ways(SOME, "abab"), list(ways(SOME, "aba")), first_way(BEFORE, "bab"), first_way(BEFORE, "bb"), count_ways(ODD, "")]
[2, [(0, 0, 0, 1), (0, 1, 1, 1)], (0, 0, 1, 2), None, 0]
>>> [reached(BEFORE, "ba"), ready(BEFORE, "ab"), ready(ODD, ""), is_way(ENDA, "a", (0, 1)), is_way(ENDA, "a", [0, 1])]
[(0, 1), (0,), (1,), True, False]
"""
CALLS = (count_ways, first_way, reached, ready, lambda reader, text: list(ways(reader, text)),
         lambda reader, text: is_way(reader, text, None))
READERS = [*some_readers(3, 60), ODD, ENDA, BEFORE, SOME, EVERY, NOTHING, full_reader("ab", 2)]


class WaysTests(unittest.TestCase):
    def test_examples(self):
        run_examples(self, EXAMPLES, module)

    def test_all_ways(self):
        for reader in READERS:
            for text in texts_up_to("ab", 4):
                wanted = all_ways(reader, text)
                self.assertEqual(list(ways(reader, text)), wanted)
                self.assertEqual(count_ways(reader, text), len(wanted))
                self.assertEqual(first_way(reader, text), wanted[0] if wanted else None)

    def test_reached_and_ready(self):
        for reader in READERS:
            states = range(len(reader))
            for text in texts_up_to("ab", 4):
                to = [state for state in states if all_ways(reader.with_ends(lasts=(state,)), text)]
                since = [state for state in states if all_ways(reader.with_ends(firsts=(state,)), text)]
                self.assertEqual(reached(reader, text), tuple(to))
                self.assertEqual(ready(reader, text), tuple(since))

    def test_the_empty_text(self):
        reader = Reader("ab", 3, (0, 2), (1, 2), ((0, "a", 1),))
        self.assertEqual([list(ways(reader, "")), count_ways(reader, ""), first_way(reader, "")], [[(2,)], 1, (2,)])
        self.assertEqual([reached(reader, ""), ready(reader, "")], [(0, 2), (1, 2)])
        self.assertEqual([list(ways(ODD, "")), count_ways(ODD, ""), first_way(ODD, "")], [[], 0, None])

    def test_texts_without_ways(self):
        for reader, text in ((NOTHING, ""), (NOTHING, "ab"), (BEFORE, "bbb"), (SOME, "b"), (ENDA, "a" * 4000 + "b")):
            found = [list(ways(reader, text)), count_ways(reader, text), first_way(reader, text)]
            self.assertEqual(found, [[], 0, None])

    def test_kinds_of_results(self):
        for value in (first_way(SOME, "aa"), next(iter(ways(SOME, "aa"))), reached(SOME, "a"), ready(SOME, "a")):
            self.assertIsInstance(value, tuple)
        self.assertIs(is_way(EVERY, "", (0,)), True)

    def test_long_texts_with_very_many_ways(self):
        many = full_reader("ab", 7)
        text = "abb" * 1300
        start = time.monotonic()
        self.assertEqual(count_ways(many, text), 7 ** 3901)
        self.assertEqual(first_way(many, text), (0,) * 3901)
        self.assertEqual(count_ways(SOME, "a" * 4000), 4000)
        self.assertEqual(first_way(SOME, "a" * 4000), (0,) * 4000 + (1,))
        found = list(islice(ways(many, text), 9))
        self.assertEqual([way[-2:] for way in found], list(product(range(7), repeat=2))[:9])
        self.assertEqual({way[:-2] for way in found}, {(0,) * 3899})
        self.assertEqual(list(islice(ways(SOME, "b" * 50 + "a" * 3900), 2)),
                         [(0,) * 3950 + (1,), (0,) * 3949 + (1, 1)])
        self.assertLess(time.monotonic() - start, 20)

    def test_sixty_states_and_a_long_text(self):
        many = full_reader("abcd", 60)
        self.assertEqual(count_ways(many, "abcd" * 1000), 60 ** 4001)
        self.assertEqual(first_way(many, "abcd" * 1000), (0,) * 4001)
        self.assertEqual(reached(many, "abcd" * 1000), tuple(range(60)))

    def test_generator_raises_when_it_is_asked(self):
        for reader, text, error in ((None, "a", InvalidReader), (ODD, "c", InvalidText), (5, 5, InvalidReader)):
            steps = ways(reader, text)
            expect(self, error, next, steps)


class IsWayTests(unittest.TestCase):
    def test_all_tuples(self):
        for reader in some_readers(4, 25, size=3):
            for text in texts_up_to("ab", 3):
                wanted = all_ways(reader, text)
                for size in range(len(text) + 3):
                    for value in product(range(-1, len(reader) + 1), repeat=size):
                        self.assertIs(is_way(reader, text, value), value in wanted)

    def test_values_near_ways(self):
        way = (0, 0, 1, 1)
        self.assertIs(is_way(SOME, "aab", way), True)
        for value in ((0, 0, 1), (0, 0, 1, 1, 1), (0, 0, 1, True), (False, 0, 1, 1), (0, False, True, 1), [0, 0, 1, 1],
                      (0, 0, 1, "1"), (0, 0, 1, None), (0, 0, 1, 2), (0, 0, 1, -1), (0, 0, (1,), 1), (way,), "0011",
                      {0: 0}, (0, 0, 0, 1), (1, 1, 1, 1), (0, 1, 0, 1), (0, 0, 0, 0), (0, 0, 1, TOO_LONG),
                      (0, 0, 1, 10 ** 299), ()):
            self.assertIs(is_way(SOME, "aab", value), False)

    def test_values_of_every_kind(self):
        for value in kinds():
            self.assertIs(is_way(SOME, "bab", value), False)
            self.assertIs(is_way(SOME, "", value), False)
            self.assertIs(is_way(ENDA, "aa", value), False)

    def test_long_ways(self):
        text = "ab" * 2000
        self.assertIs(is_way(SOME, text, (0,) * 3999 + (1, 1)), True)
        self.assertIs(is_way(SOME, text, (0,) * 4000 + (1,)), False)


class ErrorTests(unittest.TestCase):
    def test_no_reader(self):
        for value in [*kinds(), "a", ("ab", 2, (0,), (1,), ())]:
            if not isinstance(value, Reader):
                for call in CALLS:
                    expect(self, InvalidReader, call, value, "a")
                    expect(self, InvalidReader, call, value, "c")
                    expect(self, InvalidReader, call, value, None)

    def test_no_text(self):
        for value in [*kinds(), "c", "abc", "A", " "]:
            if value not in ("ba", "aa"):
                for call in CALLS:
                    expect(self, InvalidText, call, SOME, value)

    def test_arguments_stay(self):
        reader = Reader("ab", 2, (0,), (1,), SOME.arrows)
        for call in CALLS:
            self.assertEqual(call(reader, "aab"), call(reader, "aab"))
        self.assertEqual(reader, SOME)


if __name__ == "__main__":
    unittest.main()
