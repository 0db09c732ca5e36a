"""Formulas, their trees, texts and numbers."""

import random
import unittest
from itertools import combinations

from loneguess.errors import InvalidFormula, InvalidName, InvalidOperation
from loneguess.formula import formulas as module
from loneguess.formula.formulas import MAX_DEPTH, MAX_NAMES, WORDS, Formula, are_same, numbers
from tests.checks import expect
from tests.examples import run_examples
from tests.values import ODD, kinds, kinds_but, some_trees

EXAMPLES = """
>>> left, right = Formula.of("left"), Formula.of("right")
>>> [str(left - right), str(~(left | right) & left), numbers(left | right), numbers(left & ~left), numbers(~left)]
['left and not right', 'not (left or right) and left', ((('left',), 1), (('right',), 1), (('left', 'right'), -1)), (), (((), 1), (('left',), -1))]
>>> [(left | right)(("right",)), (left - right).holds(("left", "right")), are_same(left - right, ~(~left | right)), len(left - right)]
[True, False, True, 4]
>>> Formula(("name", "not"))
raises InvalidFormula
"""
A, B, C, D, E = (("name", name) for name in "abcde")
ALL, NONE = ("all",), ("none",)
NO_TREES = ((), ("all", "all"), ("none", ALL), ("name",), ("name", "a", "b"), ("name", ""), ("name", "A"), ("name", "ninechars"),
            ("name", "a b"), ("name", True), ("name", 1), ("name", None), ("name", A), ("name", ("a",)), ("not",), ("not", A, B),
            ("not", "a"), ("not", None), ("not", (A,)), ("and", A), ("and", A, B, C), ("and", A, "b"), ("and", None, A),
            ("or", A), ("or", A, B, C), ("or", A, ()), ("or", [], A), ["all"], ["not", A], ("not", ["all"]), ("xor", A, B),
            ("All",), ("", A), (A,), (A, B), ("a",), (True,), (None,), (1, A), ("and", "a", "b"), "all", "a", {"all": 1},
            ({}, A), ([], A), (ODD, A), ("all ",), *(("name", word) for word in WORDS))
NO_NAME_SETS = (["a"], "a", ("b", "a"), ("a", "a"), ("A",), ("",), ("ninechars",), (True,), (None,), (("a",),), ("a", 1),
                {"a": 1}, {}, [], None, True, 1, ("a", "b", "ab"), ODD)


def nested(word, many, tree=A):
    """A tree with so many tuples one in another."""
    for _ in range(many - 1):
        tree = (word, tree) if word == "not" else (word, tree, B)
    return tree


def really(tree, names):
    """Whether a tree is true if just these names are."""
    word = tree[0]
    if word == "name":
        return tree[1] in names
    if word == "not":
        return not really(tree[1], names)
    if word == "and":
        return really(tree[1], names) and really(tree[2], names)
    if word == "or":
        return really(tree[1], names) or really(tree[2], names)
    return word == "all"


def names_in(tree):
    """The names in a tree."""
    if tree[0] == "name":
        return {tree[1]}
    return set().union(*[names_in(part) for part in tree[1:]])


def tuples_in(value):
    """The number of tuples in a value."""
    return 1 + sum(tuples_in(part) for part in value if isinstance(part, tuple)) if isinstance(value, tuple) else 0


def sets_of(names):
    """All sets of names, first by their sizes, then ascending."""
    return [some for many in range(len(names) + 1) for some in combinations(sorted(names), many)]


TREES = [*some_trees(60, 150), A, ALL, NONE, nested("not", 8), nested("and", 8), ("or", A, ("and", B, ("not", A)))]


class FormulaTests(unittest.TestCase):
    def test_examples(self):
        run_examples(self, EXAMPLES, module)

    def test_constants(self):
        self.assertEqual([MAX_NAMES, MAX_DEPTH, WORDS], [4, 8, ("all", "and", "none", "not", "or")])

    def test_parts(self):
        for tree in TREES:
            formula = Formula(tree)
            self.assertEqual(formula.tree, tree)
            self.assertEqual(formula.names, tuple(sorted(names_in(tree))))
            self.assertEqual(len(formula), tuples_in(tree))

    def test_no_tree(self):
        for tree in [*kinds(), *NO_TREES]:
            expect(self, InvalidFormula, Formula, tree)
            expect(self, InvalidFormula, Formula, ("not", tree))
            expect(self, InvalidFormula, Formula, ("and", A, tree))
            expect(self, InvalidFormula, Formula, ("or", tree, A))

    def test_depth(self):
        for word in ("not", "and", "or"):
            for leaf in (A, ALL, NONE):
                for many in range(1, 9):
                    self.assertEqual(Formula(nested(word, many, leaf)).tree, nested(word, many, leaf))
                for many in (9, 10, 12):
                    expect(self, InvalidFormula, Formula, nested(word, many, leaf))
        expect(self, InvalidFormula, Formula, ("and", A, nested("not", 8)))
        self.assertEqual(Formula(("and", A, nested("not", 7))).names, ("a",))
        full = A
        for _ in range(7):
            full = ("and", full, full)
        self.assertEqual(len(Formula(full)), 255)

    def test_names(self):
        four = ("or", ("and", D, C), ("and", B, ("and", A, D)))
        self.assertEqual(Formula(four).names, ("a", "b", "c", "d"))
        expect(self, InvalidFormula, Formula, ("or", four, E))
        expect(self, InvalidFormula, Formula, ("or", ("or", A, B), ("or", C, ("or", D, E))))
        self.assertEqual(Formula(("or", four, four)).names, ("a", "b", "c", "d"))
        self.assertEqual(Formula(("name", "eightlet")).names, ("eightlet",))

    def test_of(self):
        for name in ("a", "zz", "eightlet", "nots", "an", "true"):
            self.assertEqual(Formula.of(name).tree, ("name", name))
        for name in [*kinds_but(str), *WORDS, "", "A", "a b", "ninechars", "~" * 4000, "a\n", ("name", "a")]:
            expect(self, InvalidName, Formula.of, name)

    def test_equal(self):
        one = Formula(("and", A, B))
        self.assertTrue(one == Formula(("and", A, B)))
        self.assertFalse(one != Formula(("and", A, B)))
        for other in [Formula(("and", B, A)), Formula(("or", A, B)), Formula(A), ~~one, *kinds(), one.tree, str(one)]:
            self.assertIs(one == other, False)
            self.assertIs(other == one, False)
            self.assertIs(one != other, True)

    def test_text(self):
        texts = {ALL: "all", NONE: "none", A: "a", ("not", A): "not a", ("not", ("not", A)): "not not a", ("and", A, B): "a and b",
                 ("or", A, B): "a or b", ("and", ("and", A, B), C): "(a and b) and c", ("and", A, ("and", B, C)): "a and (b and c)",
                 ("or", ("and", A, B), ("or", C, ALL)): "(a and b) or (c or all)", ("not", ("or", A, NONE)): "not (a or none)",
                 ("not", ("not", ("and", A, A))): "not not (a and a)", ("and", ("not", A), ("not", B)): "not a and not b",
                 ("or", ("not", ("or", A, B)), C): "not (a or b) or c"}
        for tree, text in texts.items():
            self.assertEqual(str(Formula(tree)), text)

    def test_no_two_texts_are_equal(self):
        trees = set(TREES)
        self.assertEqual(len({str(Formula(tree)) for tree in trees}), len(trees))

    def test_not_iterated_over(self):
        for call in (iter, list, tuple, sorted, set, lambda formula: [1 for _ in formula], lambda formula: (*formula,)):
            expect(self, TypeError, call, Formula(A))

    def test_parts_cannot_be_assigned(self):
        for name in ("tree", "names"):
            expect(self, AttributeError, setattr, Formula(A), name, ())


class OperatorTests(unittest.TestCase):
    def test_trees(self):
        for one, other in zip(TREES[:40], TREES[40:80]):
            first, second = Formula(one), Formula(other)
            if tuples_deep(one) < 7 and tuples_deep(other) < 7 and len(names_in(one) | names_in(other)) < 5:
                self.assertEqual((first & second).tree, ("and", one, other))
                self.assertEqual((first | second).tree, ("or", one, other))
                self.assertEqual((first - second).tree, ("and", one, ("not", other)))
                self.assertEqual((~first).tree, ("not", one))

    def test_wrong_operands(self):
        for other in [*kinds_but(Formula), A, "a", ("and", A, B)]:
            for call in (lambda: Formula(A) & other, lambda: Formula(A) | other, lambda: Formula(A) - other):
                expect(self, InvalidOperation, call)

    def test_too_deep_or_too_many(self):
        deep, seven, six = Formula(nested("not", 8)), Formula(nested("not", 7)), Formula(nested("and", 6))
        for call in (lambda: ~deep, lambda: deep & six, lambda: six | deep, lambda: six - seven, lambda: deep - six):
            expect(self, InvalidFormula, call)
        self.assertEqual([len(~seven), len(seven & six), len(seven - six), len(six - six)], [8, 19, 20, 24])
        four = Formula(("or", ("or", A, B), ("or", C, D)))
        for call in (lambda: four & Formula(E), lambda: four | Formula(E), lambda: four - Formula(E)):
            expect(self, InvalidFormula, call)
        self.assertEqual((four & Formula(D)).names, ("a", "b", "c", "d"))
        expect(self, InvalidOperation, lambda: deep & None)

    def test_holds(self):
        for tree in TREES:
            formula = Formula(tree)
            for names in sets_of({*names_in(tree), "zz", "and"}):
                self.assertIs(formula.holds(names), really(tree, names))
                self.assertIs(formula(names), really(tree, names))
        self.assertIs(Formula(A)(tuple(chr(97 + at) for at in range(26))), True)
        self.assertIs(Formula(A)(("all", "and", "b")), False)

    def test_wrong_sets_of_names(self):
        for names in [*[value for value in kinds() if value not in ((), ("a",), ("two",), ("one",))], *NO_NAME_SETS]:
            expect(self, InvalidOperation, Formula(A), names)
            expect(self, InvalidOperation, Formula(A).holds, names)

    def test_renamed(self):
        formula = Formula(("or", ("and", A, B), ("not", A)))
        self.assertEqual(formula.renamed({}), formula)
        self.assertEqual(formula.renamed({"a": "c"}).tree, ("or", ("and", C, B), ("not", C)))
        self.assertEqual(formula.renamed({"a": "b", "b": "a"}).tree, ("or", ("and", B, A), ("not", B)))
        self.assertEqual(formula.renamed({"b": "a"}).tree, ("or", ("and", A, A), ("not", A)))
        self.assertEqual(formula.renamed({"b": "a"}).names, ("a",))
        self.assertEqual(formula.renamed({"b": "b", "a": "zz"}), formula.renamed({"a": "zz"}))
        self.assertEqual(formula.tree, ("or", ("and", A, B), ("not", A)))
        names = {"a": "c"}
        formula.renamed(names)
        self.assertEqual(names, {"a": "c"})
        four = Formula(("or", ("or", A, B), ("or", C, D)))
        self.assertEqual(four.renamed({"a": "e", "d": "f"}).names, ("b", "c", "e", "f"))

    def test_renamed_wrongly(self):
        formula = Formula(("or", ("and", A, B), ("not", A)))
        for names in ({"c": "a"}, {"a": "c", "c": "a"}, {"a": "A"}, {"a": ""}, {"a": None}, {"a": True}, {"a": ("b",)}, {"a": "and"},
                      {"b": "none"}, {1: "a"}, {None: "a"}, {True: "a"}, {("a",): "b"}, {"a": ODD}, {"a": ["b"]}, {"a": "ninechars"},
                      {"and": "a"}, {"": "a"}, {10 ** 299: "a"}, *[value for value in kinds() if value not in ({}, {"a": "b"})], "ab", (("a", "b"),)):
            expect(self, InvalidOperation, formula.renamed, names)


def tuples_deep(tree):
    """How many tuples are one in another."""
    return 1 + max([tuples_deep(part) for part in tree if isinstance(part, tuple)], default=0)


class NumberTests(unittest.TestCase):
    def test_what_they_add_up_to(self):
        for tree in TREES:
            found = numbers(Formula(tree))
            own = sets_of(names_in(tree))
            places = [own.index(names) for names, _ in found]
            self.assertEqual(places, sorted(set(places)))
            for names, number in found:
                self.assertIs(number.__class__, int)
                self.assertNotEqual(number, 0)
            for true in own:
                told = sum(number for names, number in found if set(names) <= set(true))
                self.assertEqual(told, int(really(tree, true)))

    def test_edges(self):
        self.assertEqual([numbers(Formula(ALL)), numbers(Formula(NONE)), numbers(Formula(A))], [(((), 1),), (), ((("a",), 1),)])
        self.assertEqual(numbers(Formula(("or", A, ("not", A)))), (((), 1),))
        neither = ("and", ("and", ("not", A), ("not", B)), ("and", ("not", C), ("not", D)))
        self.assertEqual(numbers(Formula(neither)), tuple((some, (-1) ** len(some)) for some in sets_of("abcd")))

    def test_are_same(self):
        told = random.Random(61)
        found = 0
        for _ in range(300):
            one, other = told.choice(TREES), told.choice(TREES)
            own = sets_of(names_in(one) | names_in(other))
            wanted = all(really(one, names) == really(other, names) for names in own)
            self.assertIs(are_same(Formula(one), Formula(other)), wanted)
            found += wanted and one != other
        self.assertGreater(found, 5)
        self.assertIs(are_same(Formula(("or", A, ("not", A))), Formula(ALL)), True)
        self.assertIs(are_same(Formula(("and", A, ("or", B, ALL))), Formula(A)), True)
        self.assertIs(are_same(Formula(A), Formula(B)), False)
        self.assertIs(are_same(Formula(("and", A, ("not", A))), Formula(("and", B, NONE))), True)

    def test_no_formula(self):
        for value in [*kinds_but(Formula), A, "a"]:
            expect(self, InvalidFormula, numbers, value)
            expect(self, InvalidFormula, are_same, value, Formula(A))
            expect(self, InvalidFormula, are_same, Formula(A), value)
            expect(self, InvalidFormula, are_same, value, None)


if __name__ == "__main__":
    unittest.main()
