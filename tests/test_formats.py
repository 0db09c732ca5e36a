"""Readers, formulas and values as texts."""

import random
import re
import unittest

from loneguess.errors import InvalidFormula, InvalidOperation, InvalidReader, ParseError
from loneguess.formula import formulas
from loneguess.formula.formulas import Formula
from loneguess.read.lone import lone_paper
from loneguess.read.readers import Reader
from loneguess.text import formats as module
from loneguess.text.formats import read_formula, read_reader, read_value, write_formula, write_reader, write_value
from tests.checks import expect, expect_kept
from tests.examples import run_examples
from tests.values import BEFORE, ENDA, EVERY, LONG, NOTHING, ODD, SOME, TOO_LONG
from tests.values import full_reader, kinds, kinds_but, nested, sized_loop, some_readers, some_trees

EXAMPLES = """
>>> few = Reader.of_texts("ab", ("ba", "", "b"))
>>> odd, ends, before = Formula.of("odd"), Formula.of("ends"), Formula.of("before")
>>> [write_reader(ENDA).split("\\n"), write_formula(odd - (ends | before)), write_value(("text", "", 3, (None, ())))]
[['letters ab', 'states 2', 'first 0', 'last 1', 'arrow 0 a 0', 'arrow 0 a 1', 'arrow 0 b 0'], 'odd and not (ends or before)', '( =text = 3 ( none ( ) ) )']
>>> [read_reader(write_reader(few)) == few, read_formula("not not odd or (all and none)").tree, read_value("( =space ( ( 1 -2 ) ) )")]
[True, ('or', ('not', ('not', ('name', 'odd'))), ('and', ('all',), ('none',))), ('space', ((1, -2),))]
>>> read_formula("odd or ends or before")
raises ParseError(0)
>>> read_reader("letters ab\\nstates 1\\nfirst 0\\nlast x")
raises ParseError(3)
"""
READERS = [*some_readers(140, 40), *some_readers(141, 10, 3, "abcd"), ODD, ENDA, BEFORE, SOME, EVERY, NOTHING, SOME.with_ends(firsts=()),
           sized_loop(60), sized_loop(11, "xyz"), full_reader("abcd", 12)]
TREES = [*some_trees(142, 200), *some_trees(143, 30, ("odd", "ends", "o", "allx", "android"))]

NUMBER = "(0|[1-9][0-9]{0,199})"
FORMS = [re.compile(form) for form in ("letters [^ \n]+", "states " + NUMBER, "first( " + NUMBER + ")*", "last( " + NUMBER + ")*",
                                       "arrow " + NUMBER + " [^ \n]+ " + NUMBER)]


def told_index(text):
    """The index of the line that the document tells of the text of no reader, or None if it is that of one."""
    lines = text.split("\n")
    for at, line in enumerate(lines):
        if not FORMS[min(at, 4)].fullmatch(line):
            return at
    if len(lines) < 4:
        return len(lines)
    letters, size = lines[0].split(" ")[1], int(lines[1].split(" ")[1])
    ends = [[int(word) for word in line.split(" ")[1:]] for line in lines[2:4]]
    arrows = [(int(one), sign, int(other)) for _, one, sign, other in [line.split(" ") for line in lines[4:]]]
    right = re.fullmatch("[a-z]{1,4}", letters) and sorted(set(letters)) == list(letters) and 1 <= size <= 60
    for numbers in ends:
        right = right and sorted(set(numbers)) == numbers and all(number < size for number in numbers)
    right = right and sorted(set(arrows)) == arrows and all(one < size and other < size and sign in list(letters) for one, sign, other in arrows)
    return None if right else len(lines)


def bent_lines(line, told):
    """Lines that are nearly this one."""
    words = line.split(" ")
    at = told.randrange(len(words))
    for word in ("", "x", "0", "00", "-1", "1", "7", "60", "+1", "1.0", "ab", "aa", "ba", "A", "last", "9" * 200, "1" + "0" * 200, "=a", "a;", "0x1", "1_0", words[at] + words[at]):
        yield " ".join([*words[:at], word, *words[at + 1:]])
    yield " ".join([*words[:at], *words[at + 1:]])
    yield " ".join([*words[:at], words[at], *words[at:]])
    yield from (line + " ", " " + line, line.replace(" ", "  ", 1), line.replace(" ", "\t", 1), line.upper(), line[:-1], line[1:], "")


class ReaderTextTests(unittest.TestCase):
    def check_text(self, text):
        index = told_index(text)
        if index is None:
            self.assertEqual(write_reader(read_reader(text)), text)
        else:
            expect_kept(self, ParseError, "index", index, read_reader, text)
        return index

    def test_examples(self):
        run_examples(self, EXAMPLES, module, formulas)

    def test_written_and_read(self):
        for reader in READERS:
            lines = write_reader(reader).split("\n")
            self.assertEqual(lines[:2], ["letters " + reader.letters, "states " + str(len(reader))])
            self.assertEqual(lines[2:4], [" ".join([word, *map(str, states)]) for word, states in (("first", reader.firsts), ("last", reader.lasts))])
            self.assertEqual(lines[4:], [f"arrow {one} {letter} {other}" for one, letter, other in reader.arrows])
            self.assertEqual(read_reader(write_reader(reader)), reader)
        self.assertEqual(write_reader(NOTHING), "letters ab\nstates 1\nfirst\nlast")
        self.assertEqual(read_reader("letters z\nstates 60\nfirst\nlast 59"), Reader("z", 60, (), (59,), ()))

    def test_lines_left_out_put_in_and_exchanged(self):
        told = random.Random(144)
        found = set()
        for reader in READERS[:30]:
            lines = write_reader(reader).split("\n")
            for at in range(len(lines)):
                other = told.randrange(len(lines))
                found.add(self.check_text("\n".join(lines[:at] + lines[at + 1:])))
                found.add(self.check_text("\n".join(lines[:at] + [lines[other]] + lines[at:])))
                exchanged = list(lines)
                exchanged[at], exchanged[other] = exchanged[other], exchanged[at]
                found.add(self.check_text("\n".join(exchanged)))
                found.add(self.check_text("\n".join(lines[:at])))
                found.add(self.check_text("\n".join(lines[:at] + [""] + lines[at:])))
        self.assertTrue({None, 0, 1, 2, 3, 4, 5} <= found)

    def test_bent_lines(self):
        told = random.Random(145)
        found = {}
        for reader in READERS[::2]:
            lines = write_reader(reader).split("\n")
            for at in [*range(min(len(lines), 5)), len(lines) - 1]:
                for line in bent_lines(lines[at], told):
                    index = self.check_text("\n".join([*lines[:at], line, *lines[at + 1:]]))
                    kind = "read" if index is None else "end" if index == len(lines) else min(index, 4)
                    found[kind] = found.get(kind, 0) + 1
        for kind in ("read", "end", 0, 1, 2, 3, 4):
            self.assertGreater(found.get(kind, 0), 20, kind)

    def test_indices(self):
        head = "letters ab\nstates 2\nfirst 0\nlast 1"
        for text, index in (("", 0), ("\n", 0), ("letters ab", 1), ("letters", 0), ("letters ab\n", 1), ("letters ab\nstates 2", 2),
                            ("letters ab\nstates 2\nfirst", 3), ("states 2\nletters ab", 0), (head + "\n", 4), (head + "\narrow 0 a 1\n", 5),
                            (head + "\narrow 0 a 2", 5), (head + "\narrow 0 c 1", 5), (head + "\narrow 0 aa 1", 5), (head + "\narrow 0 a", 4),
                            (head + "\narrow 0 a 1\narrow 0 a 0", 6), (head + "\narrow 0 a 1\narrow 0 a 1", 6), (head + "\narrow 0 a 01", 4),
                            (head + "\nlast 1", 4), ("letters ba\nstates 2\nfirst 0\nlast 1", 4), ("letters abcde\nstates 2\nfirst\nlast", 4),
                            ("letters ;,$\nstates 2\nfirst\nlast", 4), ("letters ab\nstates 0\nfirst\nlast", 4), ("letters ab\nstates 61\nfirst\nlast", 4),
                            ("letters ab\nstates 2\nfirst 1 0\nlast", 4), ("letters ab\nstates 2\nfirst 1 1\nlast", 4),
                            ("letters ab\nstates 2\nfirst 2\nlast", 4), ("letters ab\nstates 2\nfirst\nlast 1 0", 4),
                            ("letters ab\nstates 02\nfirst\nlast", 1), ("letters ab\nstates -0\nfirst\nlast", 1),
                            ("letters ab\nstates 2 2\nfirst\nlast", 1), ("letters ab\nstates\nfirst\nlast", 1),
                            ("letters ab\nstates " + "9" * 200 + "\nfirst\nlast", 4), ("letters ab\nstates " + "9" * 201 + "\nfirst\nlast", 1),
                            ("letters ab\nstates 2\nfirst " + "9" * 200 + "\nlast", 4), ("letters ab\nstates 2\nfirst 0 " + "9" * 201 + "\nlast", 2),
                            ("letters ab\nstates x\nfirst y\nlast z", 1), ("letters ab cd\nstates x", 0), ("first 0\n" + head, 0)):
            self.assertEqual(told_index(text), index)
            expect_kept(self, ParseError, "index", index, read_reader, text)

    def test_wrong_arguments(self):
        for value in kinds_but(Reader):
            expect(self, InvalidReader, write_reader, value)
        for value in kinds_but(str):
            expect(self, InvalidOperation, read_reader, value)


class FormulaTextTests(unittest.TestCase):
    def test_written_and_read(self):
        seen = {}
        for tree in TREES:
            formula = Formula(tree)
            text = write_formula(formula)
            self.assertEqual(text, str(formula))
            self.assertEqual(read_formula(text), formula)
            self.assertEqual(repr(read_formula(text).tree), repr(tree))
            self.assertEqual(seen.setdefault(text, tree), tree)
        self.assertGreater(len(seen), 100)

    def test_depth(self):
        deep = [Formula.of("a")]
        for _ in range(7):
            deep.append(~deep[-1])
        self.assertEqual([read_formula(str(formula)) == formula for formula in deep], [True] * 8)
        expect_kept(self, ParseError, "index", 0, read_formula, "not " * 8 + "a")
        left = right = "a"
        for at in range(7):
            left, right = (f"({left}) and a" if at else "a and a"), (f"a or ({right})" if at else "a or a")
        for text in (left, right):
            self.assertEqual(str(read_formula(text)), text)
        for text in (f"({left}) and a", f"a or ({right})", f"not ({left})", "not " * 999 + "a", "(" * 3000, "a and (" * 500 + "a or a" + ")" * 500):
            expect_kept(self, ParseError, "index", 0, read_formula, text)

    def test_names(self):
        self.assertEqual(read_formula("(a or b) and (c or d)").names, tuple("abcd"))
        for text in ("((a or b) and (c or d)) or e", "((a or b) and (c or d)) and not e"):
            expect_kept(self, ParseError, "index", 0, read_formula, text)
        for text in ("ninechars", "A", "a1", "a_b", "a-b", "", "1", "=a", "and", "or", "not"):
            expect_kept(self, ParseError, "index", 0, read_formula, text)
        self.assertEqual([read_formula(text).tree for text in ("allx", "nota", "all", "none")],
                         [("name", "allx"), ("name", "nota"), ("all",), ("none",)])

    def test_bent_texts(self):
        for text in ("(a)", "(a or b)", "((a or b)) and c", "not (a)", "not (not a)", "a and (b)", "(not a) or b", "a and b and c", "a and b or c",
                     "a  and b", " a", "a ", "a and", "and a", "a not b", "a b", "not", "a or", "a or not", "a or or b", "( a or b) and c",
                     "(a or b ) and c", "(a or b)and c", "a and(b or c)", "not(a or b)", "a or b)", "(a or b", "a and (b or c", "a and b or c)",
                     "a\tand b", "a AND b", "All", "a and ()", "()", "a()", "(a or b) c", "not all none", "a and  b", "a & b", "~a", "(a or b)) and c"):
            expect_kept(self, ParseError, "index", 0, read_formula, text)
            expect_kept(self, ParseError, "index", 0, read_formula, text + "\na")

    def test_bent_at_random(self):
        told = random.Random(146)
        right = 0
        for tree in TREES:
            text = write_formula(Formula(tree))
            at = told.randrange(len(text) + 1)
            bent = text[:at] + told.choice(["", " ", "(", ")", "not ", "a", "and "]) + text[at + told.choice((0, 0, 1, 2)):]
            try:
                found = read_formula(bent)
            except ParseError as raised:
                self.assertEqual(raised.index, 0)
            else:
                self.assertEqual(write_formula(found), bent)
                right += 1
        self.assertGreater(right, 10)

    def test_lines(self):
        for text in ("a\n", "a\nb", "a or b\n\n", "all\nand", "a\n("):
            expect_kept(self, ParseError, "index", 1, read_formula, text)
        for text in ("", "\n", "\na", "a or\nb", "a b\n"):
            expect_kept(self, ParseError, "index", 0, read_formula, text)

    def test_wrong_arguments(self):
        for value in [*kinds_but(Formula), ("name", "a"), "a"]:
            expect(self, InvalidFormula, write_formula, value)
        for value in kinds_but(str):
            expect(self, InvalidOperation, read_formula, value)


def some_values(seed, many):
    """Values that have texts."""
    told = random.Random(seed)

    def grown(depth):
        if depth and told.random() < 0.6:
            return tuple(grown(depth - 1) for _ in range(told.randint(0, 3)))
        return told.choice((None, "", "a", "none", "text", 0, 1, -1, 12, -340, LONG, -LONG, 10 ** 199, "z" * 400, told.randrange(10 ** 30)))
    return [grown(told.randint(0, 8)) for _ in range(many)]


class ValueTextTests(unittest.TestCase):
    def test_written_and_read(self):
        seen = {}
        for value in some_values(147, 400):
            text = write_value(value)
            self.assertEqual(repr(read_value(text)), repr(value))
            self.assertEqual(seen.setdefault(text, value), value)
            self.assertNotIn("\n", text)
        for value, text in ((None, "none"), ("", "="), ("none", "=none"), (0, "0"), (-7, "-7"), ((), "( )"), (((),), "( ( ) )"),
                            ((1, (2,)), "( 1 ( 2 ) )"), (("a", "", None), "( =a = none )"), (LONG, "9" * 200), (-LONG, "-" + "9" * 200)):
            self.assertEqual([write_value(value), read_value(text)], [text, value])
        paper = lone_paper(SOME)
        self.assertEqual(read_value(write_value(paper)), paper)

    def test_depth(self):
        # So many tuples stand in one another, the empty one counted.
        self.assertEqual(write_value(nested(7)), "( " * 8 + ") " * 7 + ")")
        self.assertEqual(read_value("( " * 8 + ") " * 7 + ")"), nested(7))
        for value in (nested(8), nested(9), (1, (2, nested(6), nested(7))), (nested(7),)):
            expect(self, InvalidOperation, write_value, value)
        for text in ("( " * 9 + ") " * 8 + ")", "( " * 1999 + ")", "( " * 900 + ") " * 899 + ")"):
            expect_kept(self, ParseError, "index", 0, read_value, text)
        self.assertEqual(write_value((nested(6), nested(6), 1)).count("("), 15)

    def test_long_strings_and_integers(self):
        self.assertEqual([write_value("q" * 400), read_value("=" + "q" * 400)], ["=" + "q" * 400, "q" * 400])
        for value in ("q" * 401, ("q" * 401,), TOO_LONG, -TOO_LONG, (1, (TOO_LONG,))):
            expect(self, InvalidOperation, write_value, value)
        for text in ("=" + "q" * 401, "( =" + "q" * 401 + " )", "1" + "0" * 200, "-1" + "0" * 200, "( " + "9" * 201 + " )"):
            expect_kept(self, ParseError, "index", 0, read_value, text)

    def test_values_without_a_text(self):
        for value in (True, False, (True,), (None, (False,)), "A", "a b", "a\n", "=", "a1", [], [1], {}, {"a": 1}, ((), []), (1, {}), ODD, ((ODD,),),
                      *[value for value in kinds() if isinstance(value, (list, dict, bool, Reader, Formula))]):
            expect(self, InvalidOperation, write_value, value)

    def test_bent_texts(self):
        for text in ("", " ", "( ", "(", ")", "()", "( ( )", "( ) )", ") (", "( 1", "1 )", "1 2", "( 1  2 )", "( 1 2 ) ", " ( 1 2 )", "(1 2)", "( 1, 2 )",
                     "00", "01", "-0", "-01", "--1", "+1", "1.0", "1e3", "0x1", "1_000", "-", "None", "True", "a", "==", "=A", "=a b", "=a=", "=1",
                     "( =a =b", "1 (", "1 ( 2", "( ) (", "1 ( ( )", "[ 1 ]", "( 1 2\t)", "none none", "( ) ( )", "( ) 1", "-none", "=a ", "'a'", "( 007 )", "( -0 )"):
            expect_kept(self, ParseError, "index", 0, read_value, text)
            expect_kept(self, ParseError, "index", 0, read_value, text + "\nnone")

    def test_lines(self):
        for text in ("none\n", "1\n2", "( )\n\n", "=\n("):
            expect_kept(self, ParseError, "index", 1, read_value, text)
        for text in ("\n", "\n1", "( 1\n2 )", "(\n)"):
            expect_kept(self, ParseError, "index", 0, read_value, text)

    def test_wrong_arguments(self):
        for value in kinds_but(str):
            expect(self, InvalidOperation, read_value, value)


if __name__ == "__main__":
    unittest.main()
