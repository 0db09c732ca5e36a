"""Tallies, their rows and totals, and products."""

import random
import unittest

from loneguess.count import tallies as module
from loneguess.count.tallies import MAX_WIDTH, Tally, product
from loneguess.errors import InvalidOperation, InvalidTally, InvalidText, TooMany
from loneguess.read.made import both
from loneguess.read.readers import Reader
from loneguess.read.rows import step
from tests.brute import parts_end, parts_row_after, parts_step, parts_totals, texts_up_to, worth
from tests.checks import expect, expect_kept, expect_number
from tests.examples import run_examples
from tests.values import ENDA, EVERY, LONG, NOTHING, ODD, SOME, TOO_LONG
from tests.values import full_reader, kinds, kinds_but, sized_loop, some_tallies

EXAMPLES = """
>>> gap = Tally(((1, SOME), (-1, ODD)))
>>> [gap.width, gap.first, gap.worth("aab"), gap.worth("aaa"), gap.totals(4), gap.end((1, 2, 3, 4)), str(gap)]
[4, (1, 0, 1, 0), 2, 2, (0, 0, 2, 8), -2, 'tally of 2 parts, width 4']
>>> [product(gap, gap).worth("aaa"), (gap - gap).worth("aab"), (-gap)[1] == (1, ODD), len(gap + gap)]
[4, 0, True, 4]
"""
GAP = Tally(((1, SOME), (-1, ODD)))
OTHER = Tally(((2, ODD.over("abc")),))
TALLIES = [*some_tallies(20, 60), GAP, Tally(((0, EVERY),)), Tally(((LONG, NOTHING), (-LONG, ENDA), (1, ENDA)))]
NO_PARTS = ((), ((1,),), ((1, ODD, 2),), ((ODD, 1),), ((True, ODD),), ((False, ODD),), ((None, ODD),), (("1", ODD),),
            ((1, None),), ((1, (1, ODD)),), ((1, GAP),), [(1, ODD)], ([1, ODD],), {1: ODD}, ((1, ODD), None), (1, ODD), ODD,
            ((TOO_LONG, ODD),), ((-TOO_LONG, ODD),), ((10 ** 299, ODD),), ((1, ODD), (1, ODD.over("abc"))),
            ((1, ODD), (1, ODD), (0, EVERY), (1, Reader("b", 1, (), (), ()))), GAP)
NO_ROWS = ((1, 2, 3), (1, 2, 3, 4, 5), (), (1, 2, 3, True), (1, 2, None, 4), (1, 2, "3", 4), (1, 2, (3,), 4),
           (TOO_LONG, 1, 1, 1), (1, 1, 1, -TOO_LONG), (1, 1, 1, 10 ** 299), [1, 2, 3, 4], "1234", {0: 1, 1: 1, 2: 1, 3: 1},
           ((1, 2), (3, 4)), None, 1, ODD, GAP)
NO_LENGTHS = (None, True, False, -1, 401, 402, TOO_LONG, -TOO_LONG, 10 ** 299, "3", "", (3,), (), [], {}, ODD, GAP)
NO_LETTERS = (None, 0, True, "", "c", "ab", "aa", "A", " ", ("a",), ["a"], {"a": 1}, ODD)


class ClassTests(unittest.TestCase):
    def test_examples(self):
        run_examples(self, EXAMPLES, module)

    def test_constant(self):
        self.assertEqual(MAX_WIDTH, 200)

    def test_parts(self):
        for tally in TALLIES:
            parts = tally.parts
            self.assertEqual(Tally(parts), tally)
            self.assertEqual(tally.letters, parts[0][1].letters)
            self.assertEqual(tally.width, sum(len(reader) for _, reader in parts))
            self.assertEqual(tally.first, tuple(int(state in reader.firsts) for _, reader in parts
                                                for state in range(len(reader))))
            self.assertEqual(len(tally), len(parts))
            self.assertEqual([tally[at] for at in range(len(tally))], list(parts))
            self.assertEqual(str(tally), f"tally of {len(parts)} parts, width {tally.width}")

    def test_numbers(self):
        for number in (0, 1, -1, LONG, -LONG):
            self.assertEqual(Tally(((number, ODD),)).parts, ((number, ODD),))
            self.assertEqual(Tally(((number, ODD),)).worth("ab"), number)

    def test_no_tally(self):
        for parts in [*kinds(), *NO_PARTS]:
            expect(self, InvalidTally, Tally, parts)

    def test_width(self):
        wide = sized_loop(60)
        self.assertEqual(Tally(((1, wide), (0, wide), (1, wide), (1, sized_loop(20)))).width, 200)
        self.assertEqual(len(Tally(((1, Reader("a", 1, (), (), ())),) * 200)), 200)
        for parts in (((1, wide),) * 3 + ((1, sized_loop(21)),), ((1, Reader("a", 1, (), (), ())),) * 201):
            self.assertEqual(expect(self, TooMany, Tally, parts).limit, 200)
        expect(self, InvalidTally, Tally, ((1, wide),) * 4 + ((True, wide),))
        expect(self, InvalidTally, Tally, ((1, wide),) * 4 + ((1, ODD),))

    def test_index(self):
        for at in [*kinds_but(int), -1, 2, True, False, TOO_LONG, (0,), "0"]:
            expect_number(self, at, lambda value: GAP[value], at)

    def test_equal(self):
        self.assertTrue(GAP == Tally(((1, SOME), (-1, ODD))))
        self.assertFalse(GAP != Tally(((1, SOME), (-1, ODD))))
        others = [Tally(((-1, ODD), (1, SOME))), Tally(((1, SOME),)), Tally(((1, SOME), (1, ODD))),
                  Tally(((1, SOME), (-1, ENDA))), GAP + GAP, Tally(((1, SOME.over("abc")), (-1, ODD.over("abc"))))]
        for other in [*others, *kinds(), GAP.parts, "gap", GAP.first]:
            self.assertIs(GAP == other, False)
            self.assertIs(other == GAP, False)
            self.assertIs(GAP != other, True)

    def test_not_iterated_over(self):
        for call in (iter, list, tuple, sorted, set, lambda tally: [1 for _ in tally], lambda tally: (*tally,)):
            expect(self, TypeError, call, GAP)

    def test_parts_cannot_be_assigned(self):
        for name in ("parts", "letters", "width", "first"):
            expect(self, AttributeError, setattr, GAP, name, ())


class RowTests(unittest.TestCase):
    def test_worth(self):
        for tally in TALLIES:
            for text in texts_up_to("ab", 4):
                self.assertEqual(tally.worth(text), worth(tally.parts, text))
        self.assertEqual(Tally(((3, SOME), (-1, EVERY))).worth("ab" * 2000), 5999)

    def test_rows(self):
        told = random.Random(21)
        for tally in TALLIES:
            row = tuple(told.choice((0, 1, -3, 7, LONG)) for _ in range(tally.width))
            for letter in "ab":
                self.assertEqual(tally.through(row, letter), parts_row_after(tally.parts, row, letter))
            self.assertEqual(tally.step(row), parts_step(tally.parts, row))
            self.assertEqual(tally.end(row), parts_end(tally.parts, row))

    def test_rows_can_become_longer(self):
        tally = Tally(((LONG, full_reader("a", 2)),))
        self.assertEqual(tally.through((LONG, LONG), "a"), (2 * LONG, 2 * LONG))
        self.assertEqual(tally.end((LONG, -1)), LONG * (LONG - 1))
        expect(self, InvalidOperation, tally.step, (2 * LONG, 2 * LONG))

    def test_totals(self):
        for tally in TALLIES:
            wanted = parts_totals(tally.parts, 8)
            self.assertEqual(tally.totals(8), wanted)
            self.assertEqual(tuple(tally.total(size) for size in range(8)), wanted)

    def test_total_sums_the_values(self):
        for tally in some_tallies(22, 20):
            for size in range(5):
                texts = [text for text in texts_up_to("ab", size) if len(text) == size]
                self.assertEqual(tally.total(size), sum(tally.worth(text) for text in texts))

    def test_lengths(self):
        tally = Tally(((3, EVERY), (-1, ODD)))
        self.assertEqual([tally.totals(0), tally.totals(1), tally.total(0)], [(), (3,), 3])
        self.assertEqual(tally.total(400), 3 * 2 ** 400 - 2 ** 399)
        self.assertEqual(tally.totals(400), (3, *[3 * 2 ** size - 2 ** (size - 1) for size in range(1, 400)]))
        for size in [*NO_LENGTHS, *kinds_but(int)]:
            expect_number(self, size, tally.total, size)
            expect_number(self, size, tally.totals, size)

    def test_wide_tallies(self):
        wide = full_reader("abcd", 60)
        tally = Tally(((1, wide), (2, wide), (-3, wide), (LONG, Reader("abcd", 20, (0,), (0,), ()))))
        self.assertEqual(tally.totals(400), (LONG,) + (0,) * 399)
        self.assertEqual(tally.step(tally.first), (240,) * 180 + (0,) * 20)
        one = Tally(((1, wide),) * 2)
        self.assertEqual(one.step(one.first), step(wide, (1,) * 60) * 2)

    def test_wrong_rows(self):
        for row in [*NO_ROWS, *kinds()]:
            expect(self, InvalidOperation, GAP.step, row)
            expect(self, InvalidOperation, GAP.end, row)
            for letter in ("a", "c", None):
                expect(self, InvalidOperation, GAP.through, row, letter)

    def test_wrong_letters_and_texts(self):
        for letter in [*NO_LETTERS, *kinds()]:
            expect(self, InvalidText, GAP.through, (1, 2, 3, 4), letter)
        for text in [*kinds_but(str), "c", "abc", "A", " ", "a\n", "~" * 4000]:
            expect(self, InvalidText, GAP.worth, text)

    def test_tally_stays(self):
        tally = Tally(((1, SOME), (-1, ODD)))
        for _ in range(2):
            self.assertEqual([tally.step((1, 2, 3, 4)), tally.totals(3), tally.worth("aab")], [(2, 5, 7, 7), (0, 0, 2), 2])
            self.assertEqual([-(-tally), tally + tally, product(tally, tally) == product(GAP, GAP)],
                             [GAP, GAP + GAP, True])
            expect(self, InvalidOperation, lambda: tally + OTHER)
            expect(self, InvalidOperation, tally.step, (1, 2, 3))
        self.assertEqual(tally, GAP)


class OperatorTests(unittest.TestCase):
    def test_sums(self):
        for one, other in zip(TALLIES, TALLIES[1:]):
            self.assertEqual((one + other).parts, one.parts + other.parts)
            self.assertEqual((-one).parts, tuple((-number, reader) for number, reader in one.parts))
            self.assertEqual(one - other, one + -other)

    def test_wrong_operands(self):
        for other in [*kinds_but(Tally), OTHER, GAP.parts, "gap"]:
            expect(self, InvalidOperation, lambda: GAP + other)
            expect(self, InvalidOperation, lambda: GAP - other)

    def test_too_wide(self):
        wide = Tally(((1, sized_loop(60)),) * 2)
        more = Tally(((1, sized_loop(60)), (2, sized_loop(20))))
        self.assertEqual((wide + more).width, 200)
        self.assertEqual((more - wide).width, 200)
        for call in (lambda: wide + more + Tally(((0, sized_loop(1)),)), lambda: wide - wide, lambda: wide + wide):
            self.assertEqual(expect(self, TooMany, call).limit, 200)
        expect(self, InvalidOperation, lambda: (wide + more) + Tally(((0, EVERY),)))


class ProductTests(unittest.TestCase):
    def test_parts(self):
        told = random.Random(23)
        for _ in range(40):
            one, other = told.choice(TALLIES[:60]), told.choice(TALLIES[:60])
            found = product(one, other)
            self.assertEqual(found.parts, tuple((number * times, both(reader, second)) for number, reader in one.parts
                                                for times, second in other.parts))
            for text in texts_up_to("ab", 3):
                self.assertEqual(found.worth(text), one.worth(text) * other.worth(text))

    def test_long_numbers(self):
        half = Tally(((10 ** 100, EVERY), (0, ODD)))
        self.assertEqual(product(half, Tally(((10 ** 100 - 1, EVERY),))).parts[0][0], 10 ** 200 - 10 ** 100)
        self.assertEqual(product(half, Tally(((-(10 ** 99), EVERY),))).parts[1][0], 0)
        expect(self, InvalidTally, product, half, half)
        expect(self, InvalidTally, product, half, Tally(((1, EVERY), (-(10 ** 100), EVERY))))
        self.assertEqual(product(Tally(((LONG, ODD),)), Tally(((-1, ODD),))).parts[0][0], -LONG)

    def test_too_many(self):
        eight, seven = Tally(((1, sized_loop(1)), (1, sized_loop(8)))), Tally(((1, sized_loop(7)),))
        self.assertEqual(product(eight, seven).width, 63)
        expect_kept(self, TooMany, "limit", 60, product, eight, eight)
        expect_kept(self, TooMany, "limit", 60, product, Tally(((0, sized_loop(60)),)), Tally(((1, sized_loop(2)),)))
        self.assertEqual(product(Tally(((1, sized_loop(60)),) * 3), Tally(((1, sized_loop(1)),))).width, 180)
        few = Tally(((1, sized_loop(5)),) * 5)
        expect_kept(self, TooMany, "limit", 200, product, few, Tally(((1, sized_loop(3)),) * 3))
        self.assertEqual(product(few, Tally(((1, sized_loop(4)),) * 2)).width, 200)

    def test_which_error_comes_first(self):
        long, wide = Tally(((10 ** 150, sized_loop(1)),)), Tally(((10 ** 150, sized_loop(60)),) * 3)
        two = Tally(((1, sized_loop(2)),))
        for value in [*kinds_but(Tally), GAP.parts]:
            expect(self, InvalidTally, product, value, GAP)
            expect(self, InvalidTally, product, GAP, value)
            expect(self, InvalidTally, product, value, None)
        expect(self, InvalidOperation, product, GAP, OTHER)
        expect(self, InvalidOperation, product, Tally(((10 ** 150, EVERY),)), Tally(((10 ** 150, sized_loop(60)),) * 3))
        expect(self, InvalidTally, product, wide, wide)
        expect(self, InvalidTally, product, long, wide)
        expect_kept(self, TooMany, "limit", 60, product, wide, two)
        expect_kept(self, TooMany, "limit", 60, product, two, wide)

    def test_many_parts(self):
        ones = Tally(((1, EVERY),) * 20)
        found = product(ones, Tally(((2, EVERY),) * 10))
        self.assertEqual([found.width, len(found), found.worth("ab")], [200, 200, 400])


if __name__ == "__main__":
    unittest.main()
