"""Rows, totals, and their recurrence."""

import random
import unittest

from loneguess.errors import InvalidNumber, InvalidOperation, InvalidReader, InvalidText
from loneguess.read import rows as module
from loneguess.read.readers import Reader
from loneguess.read.rows import MAX_LENGTH, end, first_row, recurrence, row_behind, step, through, total, totals
from tests.brute import all_totals, all_ways, row_after, shortest_recurrence, texts_up_to
from tests.checks import expect, expect_number
from tests.examples import run_examples
from tests.values import BEFORE, ENDA, EVERY, LONG, NOTHING, ODD, SOME, TOO_LONG
from tests.values import full_reader, kinds, sized_loop, some_readers

EXAMPLES = """
>>> [first_row(BEFORE), row_behind(BEFORE, "ba"), step(ODD, (2, 5)), through(SOME, (1, 3), "b"), end(SOME, (1, 3))]
[(1, 0, 0), (1, 1, 0), (7, 7), (1, 3), 3]
>>> [totals(ODD, 5), totals(SOME, 5), total(EVERY, 100) == 2 ** 100, recurrence(ODD), recurrence(SOME), recurrence(BEFORE)]
[(0, 1, 2, 4, 8), (0, 1, 4, 12, 32), True, (0, 2), (-4, 4), (0, 0, 2)]
"""
READERS = [*some_readers(5, 60), ODD, ENDA, BEFORE, SOME, EVERY, NOTHING, full_reader("ab", 3)]
NO_ROWS = ((1,), (1, 2, 3), (), (1, True), (False, 0), (1, None), (1, "2"), (1, (2,)), (TOO_LONG, 1), (1, -TOO_LONG),
           (1, 10 ** 299), [1, 2], {0: 1, 1: 2}, "12", 12, None, True, ODD, (ODD, ODD))
NO_LENGTHS = (None, True, False, -1, 401, 402, TOO_LONG, -TOO_LONG, 10 ** 299, "3", "", (3,), (), [], {}, ODD)
ROW_CALLS = (step, end, lambda reader, row: through(reader, row, "a"), lambda reader, row: through(reader, row, None))
ALL_CALLS = (first_row, recurrence, lambda reader: through(reader, None, None), lambda reader: step(reader, None),
             lambda reader: end(reader, None), lambda reader: row_behind(reader, None),
             lambda reader: total(reader, None), lambda reader: totals(reader, None))


class RowTests(unittest.TestCase):
    def test_examples(self):
        run_examples(self, EXAMPLES, module)

    def test_constant(self):
        self.assertEqual(MAX_LENGTH, 400)

    def test_first_row(self):
        for reader in READERS:
            self.assertEqual(first_row(reader), tuple(int(state in reader.firsts) for state in range(len(reader))))

    def test_through_step_and_end(self):
        told = random.Random(6)
        for reader in READERS:
            row = tuple(told.randint(-9, 9) for _ in range(len(reader)))
            parts = [through(reader, row, letter) for letter in "ab"]
            self.assertEqual(parts, [row_after(reader, row, letter) for letter in "ab"])
            self.assertEqual(step(reader, row), tuple(map(sum, zip(*parts))))
            self.assertEqual(end(reader, row), sum(row[state] for state in reader.lasts))

    def test_row_behind(self):
        for reader in READERS:
            for text in texts_up_to("ab", 4):
                row = row_behind(reader, text)
                self.assertIsInstance(row, tuple)
                ends = [len(all_ways(reader.with_ends(lasts=(state,)), text)) for state in range(len(reader))]
                self.assertEqual(list(row), ends)

    def test_long_numbers_that_are_passed(self):
        self.assertEqual(through(SOME, (LONG, -LONG), "a"), (LONG, 0))
        self.assertEqual(through(SOME, (LONG, LONG), "a"), (LONG, 2 * LONG))
        self.assertEqual(step(SOME, (LONG, LONG)), (2 * LONG, 3 * LONG))
        self.assertEqual(end(SOME, (0, -LONG)), -LONG)

    def test_long_numbers_that_come_to_be(self):
        many = full_reader("abcd", 60)
        self.assertEqual(total(many, 400), 60 * 240 ** 400)
        self.assertEqual(row_behind(many, "a" * 300), (60 ** 300,) * 60)
        wide = full_reader("a", 2)
        self.assertEqual(end(wide, (LONG, LONG)), 2 * LONG)
        self.assertEqual(step(wide, (LONG, LONG)), (2 * LONG, 2 * LONG))
        for call in ROW_CALLS:
            expect(self, InvalidOperation, call, wide, step(wide, (LONG, LONG)))


class TotalTests(unittest.TestCase):
    def test_totals(self):
        for reader in READERS:
            wanted = all_totals(reader, 9)
            self.assertEqual(totals(reader, 9), tuple(wanted))
            self.assertEqual([total(reader, size) for size in range(9)], wanted)

    def test_total_counts_the_ways(self):
        for reader in some_readers(7, 20):
            for size in range(5):
                texts = [text for text in texts_up_to("ab", size) if len(text) == size]
                self.assertEqual(total(reader, size), sum(len(all_ways(reader, text)) for text in texts))

    def test_lengths(self):
        self.assertEqual([totals(EVERY, 0), totals(EVERY, 1), total(EVERY, 0), total(NOTHING, 0)], [(), (1,), 1, 0])
        self.assertEqual(total(EVERY, 400), 2 ** 400)
        self.assertEqual(totals(EVERY, 400), tuple(2 ** size for size in range(400)))
        self.assertEqual(totals(NOTHING, 400), (0,) * 400)
        for size in NO_LENGTHS:
            expect_number(self, size, total, ODD, size)
            expect_number(self, size, totals, ODD, size)


class RecurrenceTests(unittest.TestCase):
    def test_against_all_sizes(self):
        for reader in [*READERS, *some_readers(8, 60, size=6, letters="abc", share=0.2)]:
            numbers = all_totals(reader, 2 * len(reader) + 4)
            self.assertEqual(recurrence(reader), shortest_recurrence(numbers, len(reader)))

    def test_totals_that_are_all_0(self):
        lost = Reader("ab", 3, (0,), (2,), ((0, "a", 1), (1, "b", 0), (2, "a", 2)))
        for reader in (NOTHING, lost, SOME.with_ends(lasts=()), SOME.with_ends(firsts=())):
            self.assertEqual(recurrence(reader), ())

    def test_fewer_numbers_than_states(self):
        self.assertEqual(recurrence(full_reader("abcd", 60)), (240,))
        self.assertEqual(recurrence(Reader("ab", 60, (3,), (3,), ((3, "a", 3), (4, "b", 5)))), (1,))
        self.assertEqual(recurrence(Reader("ab", 5, (0,), (0, 1), ((0, "a", 1),))), (0, 0))

    def test_as_many_numbers_as_states(self):
        self.assertEqual(recurrence(sized_loop(60)), (1,) + (0,) * 59)
        chain = Reader("a", 60, (0,), (59,), tuple((state, "a", state + 1) for state in range(59)))
        self.assertEqual(recurrence(chain), (0,) * 60)

    def test_the_first_total_can_stand_apart(self):
        self.assertEqual(recurrence(Reader("a", 2, (0,), (0, 1), ((0, "a", 1),))), (0, 0))
        self.assertEqual(recurrence(Reader("a", 2, (0,), (0,), ((0, "a", 1), (1, "a", 1)))), (0,))
        self.assertEqual(recurrence(Reader("ab", 2, (0,), (1,), ((0, "a", 1), (1, "a", 1), (1, "b", 1)))), (0, 2))

    def test_long_totals(self):
        told = random.Random(9)
        states = tuple(range(60))
        arrows = tuple((one, letter, other) for one in states for letter in "abcd" for other in states
                       if told.random() < 0.5)
        reader = Reader("abcd", 60, states[:30], states[20:50], arrows)
        found = recurrence(reader)
        numbers = all_totals(reader, 160)
        self.assertGreater(numbers[-1], 10 ** 250)
        self.assertLessEqual(len(found), 60)
        for at in range(160 - len(found)):
            self.assertEqual(numbers[at + len(found)], sum(part * numbers[at + k] for k, part in enumerate(found)))

    def test_kinds_of_results(self):
        for reader in READERS:
            found = recurrence(reader)
            self.assertIsInstance(found, tuple)
            self.assertTrue(all(number.__class__ is int for number in found))


class ErrorTests(unittest.TestCase):
    def test_no_reader(self):
        for value in [*kinds(), "ab", ("ab", 1, (), (), ())]:
            if not isinstance(value, Reader):
                for call in ALL_CALLS:
                    expect(self, InvalidReader, call, value)

    def test_no_row(self):
        for row in NO_ROWS:
            for call in ROW_CALLS:
                expect(self, InvalidOperation, call, ODD, row)
        for row in kinds():
            for call in ROW_CALLS:
                expect(self, InvalidOperation, call, BEFORE, row)

    def test_no_letter(self):
        for letter in (None, 0, True, "", "c", "ab", "aa", "A", " ", ("a",), ["a"], {"a": 1}, ODD):
            expect(self, InvalidText, through, ODD, (1, 2), letter)
        for text in (None, 0, True, "c", "abc", "A", " ", ("a",), ["a"], {"a": 1}, ODD):
            expect(self, InvalidText, row_behind, ODD, text)

    def test_first_wrong_argument_decides(self):
        expect(self, InvalidReader, through, None, (1, True), "c")
        expect(self, InvalidOperation, through, ODD, (1, True), "c")
        expect(self, InvalidReader, total, 7, 401)
        self.assertEqual(expect(self, InvalidNumber, totals, ODD, 401).value, 401)

    def test_arguments_stay(self):
        reader = Reader("ab", 2, (0,), (1,), SOME.arrows)
        for _ in range(2):
            self.assertEqual([totals(reader, 4), step(reader, (1, 2)), recurrence(reader)],
                             [(0, 1, 4, 12), (2, 5), (-4, 4)])
        self.assertEqual(reader, SOME)


if __name__ == "__main__":
    unittest.main()
