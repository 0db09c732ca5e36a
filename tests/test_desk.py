"""Readers at work."""

import random
import unittest

from loneguess.desk import desk as module
from loneguess.desk.desk import Desk
from loneguess.errors import Broken, InvalidFormula, InvalidLetters, InvalidName, InvalidNumber, InvalidOperation, InvalidReader
from loneguess.errors import InvalidText, NothingToUndo, NotLone, TooMany, UnknownName
from loneguess.formula import formulas
from loneguess.formula.formulas import Formula
from loneguess.formula.shelves import Shelf, counts
from loneguess.read.lone import two_ways
from loneguess.read.readers import Reader
from tests.checks import expect, expect_kept, expect_number
from tests.examples import run_examples
from tests.test_compare import first_by_sets, gap_tally
from tests.values import BEFORE, ENDA, EVERY, LONG, NOTHING, ODD, SOME, TOO_LONG
from tests.values import full_reader, kinds, kinds_but, sized_loop, some_lone_readers, some_readers, some_trees

EXAMPLES = """
>>> odd, ends, before = Formula.of("odd"), Formula.of("ends"), Formula.of("before")
>>> desk = Desk("ab")
>>> [desk.put("odd", ODD), desk.put("ends", ENDA), desk.claim("once", ends & odd, odd), desk.count(odd | ends, 3), str(desk), desk.undo(), desk.labels, desk.redo()]
[None, None, None, 6, 'desk of 2 readers, 1 claims', 2, (), 3]
>>> desk.put("ends", SOME)
raises NotLone('aa')
>>> desk.claim("all", odd, ends)
raises Broken('all')
>>> [desk.claim("same", ends, ~~ends), desk.cut_arrow("ends", 0, "a", 1), desk["ends"].arrows, desk.count(ends, 5), desk.labels]
[None, None, ((0, 'a', 0), (0, 'b', 0)), 0, ('once', 'same')]
>>> desk.take("ends")
raises Broken('once')
"""
A, B, C, D = (Formula.of(name) for name in "abcd")
ALL, NONE = Formula(("all",)), Formula(("none",))
GREAT = [reader for reader in some_lone_readers(133, 40, 6) if len(reader) > 4][:8]
POOL = [*some_lone_readers(130, 14, 3), *GREAT, *some_readers(131, 6, 3), ODD, ENDA, BEFORE, SOME, EVERY, NOTHING, ODD, EVERY, ODD.over("abc"), None]
FORMULAS = [*[Formula(tree) for tree in some_trees(132, 24, "abc")], A, B, C, D, A & B, ALL, NONE, A & C, A & B & C, A & C & D, B, Formula.of("e"), None]


class Refused(Exception):
    """What the record refuses: the error and what it keeps."""


class Record:
    """What a desk should be, kept as plain lists of all that was."""

    def __init__(self):
        self.moments = [({}, {})]
        self.at = 0

    def copy(self):
        found = Record()
        found.moments, found.at = list(self.moments), self.at
        return found

    def now(self):
        return self.moments[self.at]

    def keep(self, readers, claims):
        self.moments = [*self.moments[:self.at + 1], (readers, claims)]
        self.at += 1

    def judge(self, readers, claims):
        """Refuses claims that cannot be judged or are not true, by the sets of states of the readers."""
        shelf = Shelf("ab", readers)
        for label in sorted(claims):
            one, other = claims[label]
            try:
                gap_tally(shelf, one, other)
            except TooMany as raised:
                raise Refused(TooMany, raised.limit) from None
            if first_by_sets(shelf, lambda names, _: one(names) and not other(names)) is not None:
                raise Refused(Broken, label)

    def put(self, name, reader):
        readers, claims = self.now()
        if name == "X":
            raise Refused(InvalidName, None)
        if reader is None:
            raise Refused(InvalidReader, None)
        if reader.letters != "ab" or (len(readers) == 4 and name not in readers):
            raise Refused(InvalidOperation, None)
        if two_ways(reader) is not None:
            raise Refused(NotLone, two_ways(reader))
        self.judge({**readers, name: reader}, claims)
        self.keep({**readers, name: reader}, claims)

    def arrow(self, change, name, state, letter, other):
        readers, _ = self.now()
        if name not in readers:
            raise Refused(UnknownName, name)
        reader = readers[name]
        for number, error in ((state, InvalidNumber), (letter, InvalidText), (other, InvalidNumber)):
            if error is InvalidText and letter not in ("a", "b"):
                raise Refused(InvalidText, None)
            if error is InvalidNumber and number >= len(reader):
                raise Refused(InvalidNumber, number)
        there = (state, letter, other) in reader.arrows
        if there == (change == "add_arrow"):
            raise Refused(InvalidOperation, None)
        arrows = set(reader.arrows) ^ {(state, letter, other)}
        self.put(name, Reader("ab", len(reader), reader.firsts, reader.lasts, tuple(sorted(arrows))))

    def take(self, name):
        readers, claims = self.now()
        if name not in readers:
            raise Refused(UnknownName, name)
        for label in sorted(claims):
            if name in claims[label][0].names + claims[label][1].names:
                raise Refused(Broken, label)
        self.keep({other: readers[other] for other in readers if other != name}, claims)

    def claim(self, label, one, other):
        readers, claims = self.now()
        if label == "X":
            raise Refused(InvalidName, None)
        for formula in (one, other):
            if formula is None:
                raise Refused(InvalidFormula, None)
            for name in formula.names:
                if name not in readers:
                    raise Refused(UnknownName, name)
        self.judge(readers, {label: (one, other)})
        self.keep(readers, {**claims, label: (one, other)})

    def drop(self, label):
        readers, claims = self.now()
        if label not in claims:
            raise Refused(UnknownName, label)
        self.keep(readers, {other: claims[other] for other in claims if other != label})

    def move(self, many, back):
        left = self.at if back else len(self.moments) - 1 - self.at
        if many > left:
            raise Refused(NothingToUndo, many)
        self.at += -many if back else many
        return self.at


def drawn_call(told, record):
    """A call of a desk, and the same call of a record."""
    kind = told.choice((*["put"] * 6, "add_arrow", "cut_arrow", "cut_arrow", "take", "claim", "claim", "claim", "drop", "undo", "redo"))
    name = told.choice("abcdabcdabcdaeX")
    if kind == "put":
        reader = told.choice(POOL if told.random() < 0.7 else GREAT)
        return (lambda desk: desk.put(name, reader)), (lambda: record.put(name, reader))
    if kind in ("add_arrow", "cut_arrow"):
        arrow = (told.randrange(4), told.choice("ababababc"), told.randrange(4))
        readers = record.now()[0]
        if kind == "cut_arrow" and name in readers and readers[name].arrows and told.random() < 0.7:
            arrow = told.choice(readers[name].arrows)
        return (lambda desk: vars(Desk)[kind](desk, name, *arrow)), (lambda: record.arrow(kind, name, *arrow))
    if kind == "take":
        return (lambda desk: desk.take(name)), (lambda: record.take(name))
    if kind == "claim":
        one, other, label = told.choice(FORMULAS), told.choice(FORMULAS), told.choice("pqrsX")
        if told.random() < 0.5 and one is not None and other is not None:
            other = one | other
        return (lambda desk: desk.claim(label, one, other)), (lambda: record.claim(label, one, other))
    if kind == "drop":
        label = told.choice("pqrs")
        return (lambda desk: desk.drop(label)), (lambda: record.drop(label))
    many = told.choice((1, 1, 2, 0, 3, 9))
    if many == 1 and told.random() < 0.5:
        return (lambda desk: vars(Desk)[kind](desk)), (lambda: record.move(1, kind == "undo"))
    return (lambda desk: vars(Desk)[kind](desk, many=many)), (lambda: record.move(many, kind == "undo"))


KEPT = {UnknownName: "name", InvalidNumber: "value", NotLone: "text", Broken: "name", TooMany: "limit", NothingToUndo: "many"}


class HistoryTests(unittest.TestCase):
    def setUp(self):
        self.seen = {}

    def check_step(self, told, desk, record):
        """One call of both, with the same outcome."""
        call, same = drawn_call(told, record)
        try:
            wanted = ("done", same())
        except Refused as refused:
            wanted = refused.args
        try:
            found = ("done", call(desk))
        except Exception as raised:
            error = raised.__class__
            found = (error, vars(raised)[KEPT[error]] if error in KEPT else None)
        self.assertEqual(found, wanted)
        word = wanted[0] if isinstance(wanted[0], str) else wanted[0].__name__
        self.seen[word] = self.seen.get(word, 0) + 1

    def check_same(self, desk, record):
        """That the desk is what the record tells."""
        readers, claims = record.now()
        self.assertEqual([desk.names, desk.labels, len(desk), list(desk)],
                         [tuple(sorted(readers)), tuple(sorted(claims)), len(readers), sorted(readers)])
        self.assertEqual(desk.shelf(), Shelf("ab", readers))
        for name in readers:
            self.assertEqual(desk[name], readers[name])
        for label in claims:
            self.assertEqual(desk.claimed(label), claims[label])
        self.assertEqual(str(desk), f"desk of {len(readers)} readers, {len(claims)} claims")
        self.assertEqual(desk.undo(many=0), record.at)
        self.assertEqual(desk.redo(many=0), record.at)
        expect_kept(self, NothingToUndo, "many", record.at + 1, lambda: desk.undo(many=record.at + 1))
        left = len(record.moments) - record.at
        expect_kept(self, NothingToUndo, "many", left, lambda: desk.redo(many=left))

    def run_block(self, told, desk, record, depth):
        """A block of drawn calls, perhaps with blocks within, perhaps ended by an error; then all is as before."""
        own = record.copy()

        def inside(same):
            self.assertIs(same, desk)
            for _ in range(told.randint(1, 6)):
                self.run_some(told, same, own, depth + 1)
            if told.random() < 0.4:
                raise KeyError("end")
            return "end"
        try:
            if told.random() < 0.5:
                self.assertEqual(desk.during(inside), "end")
            else:
                with desk.trial() as same:
                    inside(same)
        except KeyError as raised:
            self.assertEqual(raised.args, ("end",))
        self.check_same(desk, record)

    def run_some(self, told, desk, record, depth=0):
        if depth < 3 and told.random() < 0.1:
            self.run_block(told, desk, record, depth)
        else:
            self.check_step(told, desk, record)
        self.check_same(desk, record)

    def test_drawn_calls(self):
        for seed in range(60):
            told = random.Random(seed)
            desk, record = Desk("ab"), Record()
            for _ in range(50):
                self.run_some(told, desk, record)
                if told.random() < 0.05:
                    twin, own = desk.twin(), record.copy()
                    self.assertTrue(twin == desk)
                    for _ in range(4):
                        self.run_some(told, twin, own)
                    self.check_same(desk, record)
                    if told.random() < 0.5:
                        desk, record = twin, own
            self.check_same(desk, record)
        for word in ("done", "UnknownName", "InvalidNumber", "InvalidOperation", "NotLone", "Broken", "TooMany", "NothingToUndo",
                     "InvalidName", "InvalidReader", "InvalidFormula", "InvalidText"):
            self.assertGreater(self.seen.get(word, 0), 3, word)


def desk_of(**readers):
    """A desk with these readers."""
    desk = Desk("ab")
    for name, reader in readers.items():
        desk.put(name, reader)
    return desk


class DeskTests(unittest.TestCase):
    def test_examples(self):
        run_examples(self, EXAMPLES, module, formulas)

    def test_a_new_desk(self):
        desk = Desk("xyz")
        self.assertEqual([desk.letters, desk.names, desk.labels, len(desk), list(desk), str(desk)],
                         ["xyz", (), (), 0, [], "desk of 0 readers, 0 claims"])
        self.assertEqual(desk.shelf(), Shelf("xyz", {}))
        self.assertEqual([desk.undo(many=0), desk.redo(many=0), desk.count(ALL, 3), desk.count(NONE, 400)], [0, 0, 27, 0])
        for value in [*kinds_but(str), "", "ba", "abcde", "A", "~" * 4000]:
            expect(self, InvalidLetters, Desk, value)

    def test_four_readers_and_a_fifth_one(self):
        desk = desk_of(a=ODD, b=ENDA, c=BEFORE, d=EVERY)
        expect(self, InvalidOperation, desk.put, "e", ODD)
        expect(self, InvalidOperation, desk.put, "e", SOME)
        desk.put("d", NOTHING)
        self.assertEqual([desk.names, desk["d"] == NOTHING, desk.undo(), desk["d"] == EVERY], [("a", "b", "c", "d"), True, 4, True])
        desk.take("a")
        desk.put("e", ODD)
        self.assertEqual(desk.names, ("b", "c", "d", "e"))

    def test_not_lone(self):
        desk = desk_of(a=ENDA, b=ODD)
        expect_kept(self, NotLone, "text", "aa", desk.put, "a", SOME)
        expect_kept(self, NotLone, "text", "aa", desk.add_arrow, "a", 1, "a", 1)
        expect_kept(self, NotLone, "text", "", desk.put, "c", full_reader("ab", 2))
        self.assertEqual([desk["a"] == ENDA, desk.names, desk.undo(many=0)], [True, ("a", "b"), 2])
        self.assertEqual([desk.add_arrow("a", 1, "b", 1), desk["a"].arrows], [None, tuple(sorted([*ENDA.arrows, (1, "b", 1)]))])

    def test_claims_in_the_order_of_their_labels(self):
        for labels in (("p", "q", "r"), ("r", "q", "p")):
            desk = desk_of(a=ODD, b=ENDA)
            for label in labels:
                desk.claim(label, A & B, A)
            desk.claim("o", B, B)
            desk.claim("q", B & A, A | NONE)
            desk.claim("r", ~A, ~A)
            self.assertEqual(desk.labels, ("o", "p", "q", "r"))
            self.assertEqual(desk.claimed("q"), (B & A, A | NONE))
            expect_kept(self, Broken, "name", "p", desk.take, "a")
            expect_kept(self, Broken, "name", "o", desk.take, "b")
            desk.drop("p")
            expect_kept(self, Broken, "name", "q", desk.take, "a")
        desk = desk_of(a=ODD, b=EVERY)
        for label in "zyx":
            desk.claim(label, A, B)
        for change in (lambda: desk.put("b", ENDA), lambda: desk.cut_arrow("b", 0, "a", 0)):
            expect_kept(self, Broken, "name", "x", change)
        desk.drop("x")
        expect_kept(self, Broken, "name", "y", desk.put, "b", ENDA)
        self.assertEqual([desk["b"] == EVERY, desk.put("a", ENDA), desk.put("b", ENDA), desk.labels], [True, None, None, ("y", "z")])

    def test_too_many_ahead_of_broken(self):
        desk = Desk("a")
        for name, size in (("a", 7), ("b", 8), ("c", 1), ("d", 3)):
            desk.put(name, sized_loop(size))
        desk.claim("p", D, C)
        desk.claim("q", A & B, C)
        desk.claim("r", A, C)
        expect_kept(self, TooMany, "limit", 60, desk.put, "a", sized_loop(8))
        expect_kept(self, TooMany, "limit", 60, desk.put, "c", sized_loop(2).with_ends(lasts=(0, 1)))
        expect_kept(self, TooMany, "limit", 60, desk.claim, "s", A & D & B, C)
        # The claim "p" comes ahead of "q", which cannot be judged with this reader; and "q" ahead of "r".
        expect_kept(self, Broken, "name", "p", desk.put, "c", sized_loop(2))
        desk.drop("p")
        expect_kept(self, TooMany, "limit", 60, desk.put, "c", sized_loop(2))
        desk.drop("q")
        expect_kept(self, Broken, "name", "r", desk.put, "c", sized_loop(2))
        wide = Desk("a")
        for name, size in (("a", 2), ("b", 2), ("c", 7), ("d", 2)):
            wide.put(name, sized_loop(size))
        expect_kept(self, TooMany, "limit", 200, wide.claim, "s", A | B | (C | D), NONE)
        self.assertEqual([wide.labels, wide.undo(many=0)], [(), 4])

    def test_claims(self):
        desk = desk_of(a=ODD, b=ENDA)
        self.assertEqual([desk.claim("all", A & B, A), desk.claim("all", A & B, B), desk.labels], [None, None, ("all",)])
        self.assertEqual(desk.claimed("all"), (A & B, B))
        expect_kept(self, Broken, "name", "all", desk.claim, "all", A, B)
        expect_kept(self, Broken, "name", "x", desk.claim, "x", A, B)
        self.assertEqual([desk.claimed("all"), desk.labels], [(A & B, B), ("all",)])
        deep = A
        for _ in range(7):
            deep = ~deep
        desk.claim("deep", deep, ~A)
        self.assertEqual([desk.drop("all"), desk.labels, desk.undo(), desk.labels], [None, ("deep",), 5, ("all", "deep")])

    def test_count(self):
        desk = desk_of(a=ODD, b=ENDA)
        for formula in (A, A | B, ~B, ALL, NONE, A - B):
            wanted = counts(desk.shelf(), formula, 400)
            for size in (0, 1, 5, 399):
                self.assertEqual(desk.count(formula, size), wanted[size])
        self.assertEqual([desk.count(A, 400), desk.count(ALL, 400)], [2 ** 399, 2 ** 400])

    def test_undo_and_redo(self):
        desk = desk_of(a=ODD, b=ENDA, c=BEFORE)
        self.assertEqual([desk.undo(many=2), desk.names, desk.redo(), desk.names, desk.redo(), desk.names],
                         [1, ("a",), 2, ("a", "b"), 3, ("a", "b", "c")])
        self.assertEqual([desk.undo(many=3), desk.names, desk.redo(many=3), desk.undo(), desk.undo(many=0)], [0, (), 3, 2, 2])
        for many in (3, 4, 10 ** 9, LONG):
            expect_kept(self, NothingToUndo, "many", many, lambda: desk.undo(many=many))
        for many in (2, 3, LONG):
            expect_kept(self, NothingToUndo, "many", many, lambda: desk.redo(many=many))
        self.assertEqual([desk.names, desk.undo(many=0), desk.redo(many=1)], [("a", "b"), 2, 3])
        for value in [*kinds_but(int), True, False, -1, TOO_LONG]:
            for call in (desk.undo, desk.redo):
                raised = expect(self, InvalidNumber, lambda: call(many=value))
                self.assertIs(raised.value, value)
        for call in (desk.undo, desk.redo):
            with self.assertRaises(TypeError):
                call(1)

    def test_a_new_call_ends_redoing(self):
        desk = desk_of(a=ODD, b=ENDA)
        desk.undo()
        expect(self, InvalidOperation, desk.put, "c", ODD.over("abc"))
        expect(self, UnknownName, desk.take, "b")
        self.assertEqual([desk.redo(), desk.undo()], [2, 1])
        desk.put("c", EVERY)
        expect_kept(self, NothingToUndo, "many", 1, desk.redo)
        self.assertEqual([desk.names, desk.undo(many=2), desk.redo(many=2), desk.names], [("a", "c"), 0, 2, ("a", "c")])
        desk.put("c", EVERY)
        self.assertEqual([desk.undo(many=0), desk.undo(), desk.redo()], [3, 2, 3])

    def test_blocks(self):
        desk = desk_of(a=ODD, b=ENDA)
        desk.undo()
        with desk.trial() as same:
            self.assertIs(same, desk)
            same.put("c", EVERY)
            with desk.trial():
                desk.take("a")
                desk.undo(many=3)
                self.assertEqual([desk.names, desk.redo(many=0)], [(), 0])
            self.assertEqual([desk.names, desk.undo(many=0)], [("a", "c"), 2])
            self.assertEqual(desk.during(lambda one: [one is desk, one.put("d", ODD), one.names]), [True, None, ("a", "c", "d")])
            self.assertEqual(desk.names, ("a", "c"))
        self.assertEqual([desk.names, desk.undo(many=0), desk.redo(), desk.names], [("a",), 1, 2, ("a", "b")])

    def test_blocks_ended_by_errors(self):
        desk = desk_of(a=ODD, b=ENDA)
        with self.assertRaises(NotLone):
            with desk.trial():
                desk.put("c", EVERY)
                desk.put("a", SOME)
        self.assertEqual([desk.names, desk.undo(many=0)], [("a", "b"), 2])

        def broken(one):
            one.take("a")
            one.claim("x", B, A)
        expect_kept(self, UnknownName, "name", "a", desk.during, broken)
        expect(self, ZeroDivisionError, desk.during, lambda one: [one.take("a"), 1 // 0])
        expect(self, TypeError, desk.during, 3)
        self.assertEqual([desk.names, desk.undo(many=0)], [("a", "b"), 2])

    def test_a_block_that_is_kept(self):
        desk = desk_of(a=ODD)
        block = desk.trial()
        desk.put("b", ENDA)
        for _ in range(2):
            with block as same:
                same.put("c", EVERY)
                with block:
                    desk.take("b")
                    self.assertEqual(desk.names, ("a", "c"))
                self.assertEqual(desk.names, ("a", "b", "c"))
            self.assertEqual(desk.names, ("a", "b"))

    def test_twins(self):
        desk = desk_of(a=ODD, b=ENDA)
        desk.claim("p", A & B, A)
        desk.undo()
        twin = desk.twin()
        self.assertIsNot(twin, desk)
        self.assertEqual([twin == desk, twin.redo(), twin == desk, desk.redo(), twin == desk], [True, 3, False, 3, True])
        twin.drop("p")
        twin.take("a")
        self.assertEqual([desk.names, desk.labels, twin.names, twin.labels], [("a", "b"), ("p",), ("b",), ()])
        self.assertEqual([twin.undo(many=5), desk.undo(many=0)], [0, 3])
        with desk.trial():
            desk.drop("p")
            inner = desk.twin()
        self.assertEqual([inner.labels, inner.undo(), inner == desk], [(), 3, True])

    def test_equal(self):
        desk = desk_of(a=ODD, b=ENDA)
        other = desk_of(b=NOTHING, a=ODD)
        self.assertFalse(desk == other)
        other.put("b", ENDA)
        self.assertTrue(desk == other)
        self.assertFalse(desk != other)
        desk.claim("p", A & B, A)
        self.assertFalse(desk == other)
        other.claim("p", B & A, A)
        self.assertFalse(desk == other)
        other.claim("p", A & B, A)
        self.assertTrue(desk == other)
        other.claim("q", A, A)
        self.assertFalse(desk == other)
        self.assertFalse(Desk("ab") == Desk("abc"))
        for value in [*kinds(), desk.shelf(), ("a", "b"), "ab", {"a": ODD}]:
            self.assertIs(desk == value, False)
            self.assertIs(value == desk, False)
            self.assertIs(desk != value, True)

    def test_items_and_iteration(self):
        desk = desk_of(b=ENDA, a=ODD)
        self.assertEqual([desk["a"] == ODD, desk["b"] == ENDA, list(desk), [*desk], sorted(desk), len(desk)],
                         [True, True, ["a", "b"], ["a", "b"], ["a", "b"], 2])
        self.assertEqual(["a" in desk, "b" in desk, "c" in desk], [True, True, False])
        for value in [*kinds(), "c", "", ["a"], ("a",), {"a": 1}]:
            self.assertIs(value in desk, False)
            raised = expect(self, UnknownName, lambda name: desk[name], value)
            self.assertIs(raised.name, value)

    def test_names_on_a_desk(self):
        desk = desk_of(**{"and": ODD, "all": ENDA})
        self.assertEqual([desk.names, desk["and"] == ODD, desk.take("and")], [("all", "and"), True, None])
        expect(self, AttributeError, setattr, desk, "names", ())


class ErrorTests(unittest.TestCase):
    def setUp(self):
        self.desk = desk_of(a=ODD, b=ENDA)
        self.desk.claim("p", A & B, A)
        self.twin = self.desk.twin()

    def tearDown(self):
        self.assertTrue(self.desk == self.twin)
        self.assertEqual(self.desk.undo(many=0), 3)

    def test_put(self):
        for name in [*kinds_but(str), "", "A", "ninechars", "a b"]:
            expect(self, InvalidName, self.desk.put, name, ODD)
            expect(self, InvalidName, self.desk.put, name, None)
        for reader in kinds_but(Reader):
            expect(self, InvalidReader, self.desk.put, "a", reader)
        expect(self, InvalidOperation, self.desk.put, "a", SOME.over("abc"))
        expect_kept(self, NotLone, "text", "aa", self.desk.put, "zz", SOME)

    def test_arrows(self):
        for call in (self.desk.add_arrow, self.desk.cut_arrow):
            for name in [*kinds(), "c", "A", ""]:
                raised = expect(self, UnknownName, call, name, None, None, None)
                self.assertIs(raised.name, name)
            for state in [*kinds_but(int), -1, 2, True, LONG, TOO_LONG]:
                expect_number(self, state, call, "a", state, "a", 1)
                expect_number(self, state, call, "a", state, None, None)
                expect_number(self, state, call, "a", 1, "b", state)
            for letter in [*kinds_but(str), "", "ab", "c", "A"]:
                expect(self, InvalidText, call, "a", 1, letter, 0)
                expect(self, InvalidText, call, "a", 1, letter, None)
        expect(self, InvalidOperation, self.desk.add_arrow, "a", 0, "a", 1)
        expect(self, InvalidOperation, self.desk.cut_arrow, "a", 0, "a", 0)

    def test_names_and_labels(self):
        for call in (self.desk.take, self.desk.drop, self.desk.claimed):
            for name in [*kinds(), "c", "A", "", ["a"], ("p",)]:
                raised = expect(self, UnknownName, call, name)
                self.assertIs(raised.name, name)
        expect(self, UnknownName, self.desk.drop, "a")
        expect(self, UnknownName, self.desk.claimed, "b")
        expect(self, UnknownName, self.desk.take, "p")

    def test_claim(self):
        for label in [*kinds_but(str), "", "A", "ninechars"]:
            expect(self, InvalidName, self.desk.claim, label, A, A)
            expect(self, InvalidName, self.desk.claim, label, None, None)
        for value in kinds_but(Formula):
            expect(self, InvalidFormula, self.desk.claim, "q", value, A)
            expect(self, InvalidFormula, self.desk.claim, "q", value, C)
            expect(self, InvalidFormula, self.desk.claim, "q", A, value)
            expect_kept(self, UnknownName, "name", "c", self.desk.claim, "q", D & C, value)
        expect_kept(self, UnknownName, "name", "d", self.desk.claim, "q", A, B & D)
        expect_kept(self, Broken, "name", "q", self.desk.claim, "q", A, B)
        expect_kept(self, Broken, "name", "p", self.desk.claim, "p", A, B)

    def test_count(self):
        for value in kinds_but(Formula):
            expect(self, InvalidFormula, self.desk.count, value, 3)
            expect(self, InvalidFormula, self.desk.count, value, None)
        expect_kept(self, UnknownName, "name", "c", self.desk.count, D & C, None)
        for size in [*kinds_but(int), -1, 401, True, TOO_LONG]:
            expect_number(self, size, self.desk.count, A, size)
        wide = Desk("a")
        wide.put("a", sized_loop(8))
        wide.put("b", sized_loop(8))
        expect_kept(self, TooMany, "limit", 60, wide.count, A & B, 3)
        expect_number(self, 401, wide.count, A & B, 401)


if __name__ == "__main__":
    unittest.main()
