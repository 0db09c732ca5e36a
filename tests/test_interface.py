"""Every name of the interface, with its arguments, stands in its own file; wrong arguments are told from the first on."""

import importlib
import inspect
import unittest
from itertools import combinations

from loneguess import errors
from loneguess.count.tallies import Tally
from loneguess.desk.desk import Desk
from loneguess.errors import InvalidFormula, InvalidLetters, InvalidName, InvalidNumber, InvalidOperation, InvalidReader
from loneguess.errors import InvalidTally, InvalidText, UnknownName
from loneguess.formula.formulas import Formula
from loneguess.formula.shelves import Shelf
from loneguess.read.readers import Reader
from loneguess.text.formats import write_reader
from loneguess.text.shell import Shell
from tests.values import ENDA, ODD, SOME, kinds, kinds_but

CONSTANTS = {
    "base.names": {"MAX_LETTERS": 8, "MAX_DIGITS": 200},
    "read.readers": {"MAX_STATES": 60},
    "read.rows": {"MAX_LENGTH": 400},
    "count.tallies": {"MAX_WIDTH": 200},
    "count.spaces": {"MAX_SPACE": 60},
    "formula.formulas": {"MAX_NAMES": 4, "MAX_DEPTH": 8, "WORDS": ("all", "and", "none", "not", "or")},
    "listing.places": {"MAX_TEXT": 400},
}
FUNCTIONS = {
    "base.names": "is_integer(value) is_name(value) is_letters(value) is_text(letters,value)",
    "read.ways": "count_ways(reader,text) ways(reader,text) first_way(reader,text) reached(reader,text) ready(reader,text) "
                 "is_way(reader,text,value)",
    "read.rows": "first_row(reader) through(reader,row,letter) step(reader,row) end(reader,row) row_behind(reader,text) "
                 "total(reader,size) totals(reader,size) recurrence(reader)",
    "read.made": "trimmed(reader) turned(reader) behind(reader,text) ahead(reader,text) both(one,other) beside(one,other)",
    "read.lone": "is_lone(reader) two_ways(reader) meeting(reader) ending(reader) lone_paper(reader) is_lone_paper(reader,value)",
    "count.tallies": "product(one,other)",
    "count.spaces": "is_hollow(tally) hollow_paper(tally) is_hollow_paper(tally,value) depth(tally) first_text(tally)",
    "count.zeros": "is_zero(tally) zero_paper(tally) is_zero_paper(tally,value) are_as_many(one,other)",
    "count.within": "tally_within(one,other) is_within(one,other) outside(one,other) within_paper(one,other) "
                    "is_within_paper(one,other,value) is_full(reader) are_alike(one,other) are_apart(one,other) "
                    "is_nearly_within(one,other) rest(one,other)",
    "formula.formulas": "numbers(formula) are_same(one,other)",
    "formula.shelves": "reader_of(shelf,names) tally_of(shelf,formula) is_true(shelf,formula,text) counts(shelf,formula,size)",
    "formula.compare": "is_implied(shelf,one,other) are_equal(shelf,one,other) is_never(shelf,formula) first_true(shelf,formula) "
                       "first_gap(shelf,one,other) implied_paper(shelf,one,other) is_implied_paper(shelf,one,other,value) "
                       "does_fit(shelf,reader,formula) first_miss(shelf,reader,formula)",
    "build.joins": "join(one,other) again(reader) cuts(one,other,text) chains(reader,text) twice_cut(one,other) twice_chained(reader)",
    "listing.places": "texts_of(reader,size) nth(reader,index) place(reader,text) true_texts(shelf,formula,size) "
                      "nth_true(shelf,formula,index) true_place(shelf,formula,text)",
    "build.firsts": "careful(reader) lone_of(reader)",
    "judge.covers": "is_cover(shelf,reader,names) is_split(shelf,reader,names) uncovered(shelf,reader,names) least_covers(shelf,reader) "
                    "open_sets(shelf,reader) cover_paper(shelf,reader,names) is_cover_paper(shelf,reader,names,value)",
    "text.formats": "write_reader(reader) write_formula(formula) write_value(value) read_reader(text) read_formula(text) read_value(text)",
}
CLASSES = {
    "read.readers": ("Reader(letters,size,firsts,lasts,arrows)", "with_arrow(state,letter,other) without_arrow(state,letter,other) "
                     "with_ends(*,firsts,lasts) over(letters)", "of_texts(letters,texts)", "letters firsts lasts arrows",
                     "contains getitem len eq str"),
    "count.tallies": ("Tally(parts)", "worth(text) through(row,letter) step(row) end(row) total(size) totals(size)", "",
                      "parts letters width first", "add neg sub len getitem eq str"),
    "formula.formulas": ("Formula(tree)", "holds(names) renamed(names)", "of(name)", "tree names",
                         "and or sub invert call len eq str"),
    "formula.shelves": ("Shelf(letters,readers)", "with_reader(name,reader) without_reader(name)", "", "letters names",
                        "getitem contains len iter eq str"),
    "desk.desk": ("Desk(letters)", "put(name,reader) add_arrow(name,state,letter,other) cut_arrow(name,state,letter,other) take(name) "
                  "claim(label,one,other) drop(label) claimed(label) shelf() count(formula,size) undo(*,many) redo(*,many) trial() "
                  "during(call) twin()", "", "letters names labels", "getitem contains len iter eq str"),
    "text.shell": ("Shell(letters)", "desk() answer(line)", "", "", "call"),
}
SHELF = Shelf("ab", {"odd": ODD, "ends": ENDA})
A = Formula.of("odd")

# For each kind of argument a right one, wrong ones, their error, and the name under which it keeps the value.
KINDS = {
    "reader": (ODD, kinds_but(Reader), InvalidReader, None),
    "tally": (Tally(((1, ODD), (-1, ENDA))), kinds_but(Tally), InvalidTally, None),
    "operand": (Tally(((1, ODD),)), kinds_but(Tally), InvalidOperation, None),
    "shelf": (SHELF, kinds_but(Shelf), InvalidOperation, None),
    "formula": (A, kinds_but(Formula), InvalidFormula, None),
    "letters": ("ab", [*kinds_but(str), "ba", "", "abcde"], InvalidLetters, None),
    "text": ("ab", [*kinds_but(str), "c", "A"], InvalidText, None),
    "odd text": ("a", [*kinds_but(str), "c", "A"], InvalidText, None),
    "letter": ("a", [*kinds_but(str), "", "ab", "c"], InvalidText, None),
    "row": ((1, 2), [*[value for value in kinds() if value not in ((1, 0), (0, 0), (0, -1))], (True, 1)], InvalidOperation, None),
    "wide row": ((1, 2, 3, 4), [*kinds(), (1, 2), (True, 1, 1, 1)], InvalidOperation, None),
    "length": (3, [*kinds_but(int), True, False, -1, 401, 10 ** 299], InvalidNumber, "value"),
    "index": (3, [*kinds_but(int), True, False, -1, 10 ** 200, 10 ** 299], InvalidNumber, "value"),
    "state": (0, [*kinds_but(int), True, False, -1, 2, 10 ** 299], InvalidNumber, "value"),
    "size": (2, [*kinds_but(int), True, False, -1, 0, 61, 10 ** 299], InvalidNumber, "value"),
    "name": ("odd", [*kinds_but(str), "", "A", "ninechars"], InvalidName, None),
    "formula name": ("odd", [*kinds_but(str), "", "A", "and", "all"], InvalidName, None),
    "known name": ("odd", [*kinds(), "and", ""], UnknownName, "name"),
    "names": (("odd",), [*[value for value in kinds() if value != ()], ("odd", "ends"), ("zz",)], InvalidOperation, None),
    "name set": (("odd",), [value for value in kinds() if value not in (("a",), ("two",), ("one",), ())], InvalidOperation, None),
    "texts": (("a", ""), [value for value in kinds() if not isinstance(value, tuple)], InvalidOperation, None),
    "dict": ({}, kinds_but(dict), InvalidOperation, None),
    "told value": ((1, "a", None), [value for value in kinds() if not isinstance(value, (int, str, tuple)) and value is not None]
                   + [True, False, "A", "a\n", (1, True), ([],), 10 ** 200], InvalidOperation, None),
    "reader text": (write_reader(ODD), kinds_but(str), InvalidOperation, None),
    "formula text": ("odd or not all", kinds_but(str), InvalidOperation, None),
    "value text": ("( 1 =a )", kinds_but(str), InvalidOperation, None),
    "value": (None, None, None, None),
}
ARGUMENTS = {
    "base.names": {"is_text": ("letters", "value")},
    "read.ways": {name: ("reader", "text") for name in ("count_ways", "first_way", "reached", "ready", "ways")}
    | {"is_way": ("reader", "text", "value")},
    "read.rows": {"first_row": ("reader",), "through": ("reader", "row", "letter"), "step": ("reader", "row"),
                  "end": ("reader", "row"), "row_behind": ("reader", "text"), "total": ("reader", "length"),
                  "totals": ("reader", "length"), "recurrence": ("reader",)},
    "read.made": {"trimmed": ("reader",), "turned": ("reader",), "behind": ("reader", "text"), "ahead": ("reader", "text"),
                  "both": ("reader", "reader"), "beside": ("reader", "reader")},
    "read.lone": {**{name: ("reader",) for name in ("is_lone", "two_ways", "meeting", "ending", "lone_paper")},
                  "is_lone_paper": ("reader", "value")},
    "count.tallies": {"product": ("tally", "tally")},
    "count.spaces": {**{name: ("tally",) for name in ("is_hollow", "hollow_paper", "depth", "first_text")},
                     "is_hollow_paper": ("tally", "value")},
    "count.zeros": {"is_zero": ("tally",), "zero_paper": ("tally",), "is_zero_paper": ("tally", "value"),
                    "are_as_many": ("reader", "reader")},
    "count.within": {**{name: ("reader", "reader") for name in ("tally_within", "is_within", "outside", "within_paper", "are_alike",
                                                                "are_apart", "is_nearly_within", "rest")},
                     "is_within_paper": ("reader", "reader", "value"), "is_full": ("reader",)},
    "formula.formulas": {"numbers": ("formula",), "are_same": ("formula", "formula")},
    "formula.shelves": {"reader_of": ("shelf", "names"), "tally_of": ("shelf", "formula"), "is_true": ("shelf", "formula", "text"),
                        "counts": ("shelf", "formula", "length")},
    "formula.compare": {**{name: ("shelf", "formula", "formula") for name in ("is_implied", "are_equal", "first_gap", "implied_paper")},
                        "is_implied_paper": ("shelf", "formula", "formula", "value"), "is_never": ("shelf", "formula"),
                        "first_true": ("shelf", "formula"), "does_fit": ("shelf", "reader", "formula"),
                        "first_miss": ("shelf", "reader", "formula")},
    "build.joins": {**{name: ("reader", "reader") for name in ("join", "twice_cut")}, "again": ("reader",), "twice_chained": ("reader",),
                    "cuts": ("reader", "reader", "text"), "chains": ("reader", "text")},
    "listing.places": {"texts_of": ("reader", "length"), "nth": ("reader", "index"), "place": ("reader", "odd text"),
                       "true_texts": ("shelf", "formula", "length"), "nth_true": ("shelf", "formula", "index"),
                       "true_place": ("shelf", "formula", "odd text")},
    "build.firsts": {"careful": ("reader",), "lone_of": ("reader",)},
    "judge.covers": {**{name: ("shelf", "reader", "names") for name in ("is_cover", "is_split", "uncovered", "cover_paper")},
                     "is_cover_paper": ("shelf", "reader", "names", "value"), "least_covers": ("shelf", "reader"),
                     "open_sets": ("shelf", "reader")},
    "text.formats": {"write_reader": ("reader",), "write_formula": ("formula",), "write_value": ("told value",),
                     "read_reader": ("reader text",), "read_formula": ("formula text",), "read_value": ("value text",)},
}
GAP = Tally(((1, SOME), (-1, ODD)))
DESK = Desk("ab")
DESK.put("odd", ODD)
DESK.claim("odd", A, A)
METHODS = [
    (lambda letters, size: Reader(letters, size, (), (), ()), ("letters", "size")),
    (Reader.of_texts, ("letters", "texts")), (ODD.with_arrow, ("state", "letter", "state")), (ODD.over, ("letters",)), (GAP.worth, ("text",)),
    (GAP.through, ("wide row", "letter")), (GAP.step, ("wide row",)), (GAP.end, ("wide row",)), (GAP.total, ("length",)),
    (GAP.totals, ("length",)), (Formula.of, ("formula name",)), (A.holds, ("name set",)), (A, ("name set",)), (A.renamed, ("dict",)),
    (Shelf, ("letters", "dict")), (SHELF.with_reader, ("name", "reader")), (SHELF.without_reader, ("known name",)),
    (lambda name: SHELF[name], ("known name",)), (lambda name: GAP[name], ("state",)),
    (lambda other: GAP + other, ("operand",)), (lambda other: GAP - other, ("operand",)),
    (Desk, ("letters",)), (Shell, ("letters",)),
]
DESK_METHODS = [
    (DESK.put, ("name", "reader")), (DESK.add_arrow, ("known name", "state", "letter", "state")),
    (DESK.cut_arrow, ("known name", "state", "letter", "state")), (DESK.take, ("known name",)), (DESK.claim, ("name", "formula", "formula")),
    (DESK.drop, ("known name",)), (DESK.claimed, ("known name",)), (DESK.count, ("formula", "length")), (lambda name: DESK[name], ("known name",)),
    (lambda many: DESK.undo(many=many), ("index",)), (lambda many: DESK.redo(many=many), ("index",)),
]


def module_of(name):
    """A module of the package."""
    return importlib.import_module("loneguess." + name)


def told(text):
    """The names and parameters in a line."""
    return [(word.partition("(")[0], word.partition("(")[2].rstrip(")")) for word in text.split()]


def parameters(call, skip=0):
    """The names of parameters as the lines above tell them."""
    words = []
    for name, parameter in list(inspect.signature(call).parameters.items())[skip:]:
        if parameter.kind is parameter.KEYWORD_ONLY and "*" not in words:
            words.append("*")
        words.append(name)
    return ",".join(words)


def whole(call):
    """The call; of a generator the list of what it yields."""
    if inspect.isgeneratorfunction(call):
        return lambda *told: list(call(*told))
    return call


class InterfaceTests(unittest.TestCase):
    def test_all_functions_have_their_arguments_told(self):
        for name, line in FUNCTIONS.items():
            if name != "base.names":
                self.assertEqual(sorted(ARGUMENTS[name]), sorted(function for function, _ in told(line)))

    def test_constants(self):
        for name, wanted in CONSTANTS.items():
            for constant, value in wanted.items():
                self.assertEqual(vars(module_of(name))[constant], value)

    def test_functions(self):
        for name, line in FUNCTIONS.items():
            for function, wanted in told(line):
                found = vars(module_of(name))[function]
                self.assertEqual(found.__module__, "loneguess." + name)
                self.assertEqual(parameters(found), wanted, function)

    def test_classes(self):
        for name, (head, methods, class_methods, properties, operators) in CLASSES.items():
            (called, wanted), = told(head)
            found = vars(module_of(name))[called]
            self.assertEqual([found.__module__, parameters(found)], ["loneguess." + name, wanted])
            for method, wanted in told(methods):
                self.assertEqual(parameters(vars(found)[method], 1), wanted, method)
            for method, wanted in told(class_methods):
                self.assertIsInstance(vars(found)[method], classmethod)
                self.assertEqual(parameters(vars(found)[method].__func__, 1), wanted, method)
            for word in properties.split():
                self.assertIsInstance(vars(found)[word], property)
            for word in operators.split():
                self.assertIn(f"__{word}__", vars(found))

    def test_errors(self):
        for name in ("ReaderError", "InvalidName", "InvalidTally", "NotLone", "Broken", "NothingToUndo", "ParseError"):
            self.assertEqual(vars(errors)[name].__module__, "loneguess.errors")


def calls_that_change_nothing():
    """All calls, but for those that change a desk, with the kinds of their arguments."""
    found = [(whole(vars(module_of(name))[function]), wanted) for name, functions in ARGUMENTS.items()
             for function, wanted in functions.items()]
    return found + METHODS


class ArgumentTests(unittest.TestCase):
    def calls(self):
        """All calls with the kinds of their arguments."""
        return calls_that_change_nothing() + DESK_METHODS

    def check(self, call, wanted, arguments, at):
        """That the wrong argument at a place decides."""
        error, name = KINDS[wanted[at]][2:]
        try:
            call(*arguments)
        except Exception as raised:
            self.assertIs(raised.__class__, error, (call, at, repr(raised)[:200]))
            if name is not None:
                self.assertIs(vars(raised)[name], arguments[at])
        else:
            self.fail(f"no error: {call} {at} {str(arguments[at])[:100]}")

    def test_one_wrong_argument(self):
        for call, wanted in self.calls():
            right = [KINDS[kind][0] for kind in wanted]
            for at, kind in enumerate(wanted):
                for wrong in KINDS[kind][1] or ():
                    self.check(call, wanted, [*right[:at], wrong, *right[at + 1:]], at)

    def test_wrong_parts_come_behind_wrong_letters_and_sizes(self):
        for letters, size, error in (("ba", 99, InvalidLetters), ("ab", 99, InvalidNumber), ("ab", 2, InvalidReader)):
            with self.assertRaises(error):
                Reader(letters, size, None, None, None)

    def test_several_wrong_arguments(self):
        for call, wanted in self.calls():
            right = [KINDS[kind][0] for kind in wanted]
            places = [at for at, kind in enumerate(wanted) if KINDS[kind][1]]
            for many in (2, 3):
                for some in combinations(places, many):
                    for shift in range(12):
                        arguments = list(right)
                        for at in some:
                            wrong = KINDS[wanted[at]][1]
                            arguments[at] = wrong[(shift * 5 + at) % len(wrong)]
                        self.check(call, wanted, arguments, some[0])

    def test_judged_values_raise_nothing(self):
        for call, wanted in self.calls():
            if wanted[-1] == "value":
                right = [KINDS[kind][0] for kind in wanted[:-1]]
                for value in [*kinds(), *[(word, value) for value in kinds() for word in ("space", "text", "length", "one", "two")]]:
                    self.assertIn(repr(call(*right, value)), ("True", "False"))

    def test_a_generator_raises_at_its_first_element(self):
        many = 0
        for name, functions in ARGUMENTS.items():
            for function, wanted in functions.items():
                call = vars(module_of(name))[function]
                if inspect.isgeneratorfunction(call):
                    right = [KINDS[kind][0] for kind in wanted]
                    self.assertIsNotNone(next(call(*right)))
                    for at, kind in enumerate(wanted):
                        started = call(*right[:at], None, *[None for _ in right[at + 1:]])
                        with self.assertRaises(KINDS[kind][2]):
                            next(started)
                    many += 1
        self.assertEqual(many, 4)


if __name__ == "__main__":
    unittest.main()
