"""The shell."""

import random
import unittest

from loneguess.desk.desk import Desk
from loneguess.errors import Broken, InvalidLetters, InvalidNumber, InvalidOperation, InvalidText, NothingToUndo, NotLone
from loneguess.errors import TooMany, UnknownName
from loneguess.formula.compare import first_gap, first_true, implied_paper, is_implied
from loneguess.formula.formulas import Formula
from loneguess.formula.shelves import is_true
from loneguess.listing.places import nth_true, true_place
from loneguess.read.readers import Reader
from loneguess.text import formats
from loneguess.text import shell as module
from loneguess.text.formats import read_value, write_reader, write_value
from loneguess.text.shell import Shell
from tests.checks import expect
from tests.examples import run_examples
from tests.values import BEFORE, ENDA, EVERY, LONG, NOTHING, ODD, SOME, kinds_but, sized_loop, some_lone_readers, some_readers, some_trees

EXAMPLES = """
>>> shell = Shell("ab")
>>> [shell("put odd " + write_reader(ODD).replace("\\n", "; ")), shell("put ends " + write_reader(ENDA).replace("\\n", "; ")), shell("count 3 odd or ends"), shell("gap ends -> odd")]
['done', 'done', '6', '=aa']
>>> [shell("claim once ends and odd -> odd"), shell("claimed once"), shell("arrow ends 1 a 1"), shell("nth 3 odd"), shell("place =bba odd"), shell("place =aa odd"), shell("true =ac odd")]
['done', 'ends and odd -> odd', 'lone =aa', '=aaa', '6', 'operation', 'text']
>>> [shell("take odd"), shell("first odd and not odd"), shell("undo 9"), shell("reader far"), shell("labels"), shell("implied odd -> odd or ends"), shell("fly")]
['broken once', 'none', 'undo 9', 'unknown far', 'once', 'yes', 'what']
"""
ODD_LINE = "letters ab; states 2; first 0; last 1; arrow 0 a 1; arrow 0 b 0; arrow 1 a 0; arrow 1 b 1"
# Each command with right words, on the desk of started(), and its answer.
RIGHT = [
    ("put spare " + ODD_LINE, "done"), ("put free letters ab; states 1; first 0; last 0; arrow 0 a 0", "broken same"), ("take ends", "broken once"),
    ("take spare", "done"), ("arrow free 0 a 0", "broken same"), ("arrow spare 0 a 0", "done"), ("cut free 0 b 0", "done"), ("claim all free -> all", "done"), ("drop once", "done"),
    ("undo", "done"), ("undo 2", "done"), ("undo 0", "done"), ("redo", "done"), ("redo 0", "done"), ("redo 2", "undo 2"), ("undo 99", "undo 99"),
    ("names", "ends free odd spare"), ("put more " + ODD_LINE, "operation"), ("labels", "once same"), ("reader ends", write_reader(ENDA)),
    ("reader free", "letters ab\nstates 1\nfirst 0\nlast 0\narrow 0 b 0"), ("claimed once", "ends and odd -> odd"),
    ("claimed same", "free and not none -> not ends"), ("count 5 odd or ends", "24"), ("count 0 odd", "0"), ("count 400 all", str(2 ** 400)),
    ("true =ab odd", "yes"), ("true = odd", "no"), ("true =ab not odd", "no"), ("implied odd -> ends", "no"),
    ("implied free -> not ends", "yes"), ("first odd and ends", "=a"), ("first free", "="), ("first none", "none"), ("gap odd -> ends", "=ab"),
    ("gap all -> odd", "="), ("gap odd -> odd or free", "none"), ("nth 7 odd", "=aaab"), ("nth 0 free", "="),
    ("nth 0 none", "none"), ("place =ab odd", "1"), ("place = not odd", "0"), ("paper odd -> ends", "( =text =ab )"),
    ("paper odd -> odd", "( =space ( ( 1 ) ) )"),
    ("count 401 odd", "number 401"), ("count 5 far", "unknown far"), ("count 401 far or odd", "unknown far"),
    ("true =abc odd", "text"), ("true =abc far", "unknown far"), ("place =b odd", "operation"), ("place =c odd", "text"),
    ("take far", "unknown far"), ("reader far", "unknown far"), ("drop far", "unknown far"), ("claimed odd", "unknown odd"),
    ("arrow odd 2 a 0", "number 2"), ("arrow odd 0 c 0", "text"), ("arrow odd 0 ab 7", "text"), ("arrow odd 0 a 7", "number 7"),
    ("arrow odd 0 a 1", "operation"), ("cut odd 0 a 0", "operation"), ("arrow far 9 c 9", "unknown far"), ("arrow ends 1 a 1", "lone =aa"),
    ("claim bad odd -> ends", "broken bad"), ("claim bad odd -> far", "unknown far"), ("gap aa and zz -> odd", "unknown aa"),
    ("put odd letters abc; states 1; first; last", "operation"),
    ("put free letters ab; states 2; first 0 1; last 0 1", "lone ="), ("nth " + "9" * 200 + " odd", "many 400"), ("redo 1", "done"),
]
WORDS = ("", "x", "X", "odd", "far", "0", "00", "-1", "7", "401", "=", "=ab", "=AB", "a", "ab", "->", "->x", "and", "not", "(", ";", "1.5",
         "ninechars", "9" * 200, "9" * 201, "letters", "\n", "a\nb")


def started():
    """A shell with some readers and claims, and a call that is taken back."""
    shell = Shell("ab")
    for line in ("put odd " + ODD_LINE, "put ends " + in_line(ENDA), "put free letters ab; states 1; first 0; last 0; arrow 0 b 0",
                 "claim once ends and odd -> odd", "claim same free and not none -> not ends", "take free",
                 "put spare letters ab; states 1; first; last"):
        assert shell(line) in ("done", "broken same"), line
    assert [shell("drop once"), shell("undo")] == ["done", "done"]
    return shell


def in_line(reader):
    """The text of a reader, as it stands in a line."""
    return write_reader(reader).replace("\n", "; ")


def state_of(shell):
    """All that can be asked of a desk, by a twin."""
    desk = shell.desk()
    done = desk.undo(many=0)
    found = []
    for many in range(done + 1):
        twin = shell.desk()
        twin.undo(many=many)
        found.append(([(name, write_reader(twin[name])) for name in twin], [(label, *map(str, twin.claimed(label))) for label in twin.labels]))
    left = 0
    while True:
        try:
            shell.desk().redo(many=left + 1)
        except NothingToUndo:
            return done, left, found
        left += 1


class ShellTests(unittest.TestCase):
    def test_examples(self):
        run_examples(self, EXAMPLES, module, formats)

    def test_letters(self):
        for value in [*kinds_but(str), "", "ba", "abcde", "A"]:
            expect(self, InvalidLetters, Shell, value)
        self.assertEqual([Shell("xyz").desk().letters, Shell("xyz")("names"), Shell("xyz")("labels")], ["xyz", "none", "none"])

    def test_right_words(self):
        for line, wanted in RIGHT:
            one, other = started(), started()
            self.assertEqual(one(line), wanted, line)
            self.assertEqual(other.answer(line), wanted)
            self.assertEqual(state_of(one), state_of(other))
            if wanted != "done":
                self.assertEqual(state_of(one), state_of(started()))

    def test_every_command_stands_there(self):
        words = {line.split(" ")[0] for line, _ in RIGHT}
        self.assertEqual(words, set("put take arrow cut claim drop undo redo names labels reader claimed count true implied first gap nth place "
                                    "paper".split()))
        answers = {wanted.split(" ")[0] for _, wanted in RIGHT}
        self.assertTrue({"unknown", "number", "text", "operation", "lone", "broken", "many", "undo", "done", "none"} <= answers)

    def test_what_the_commands_do(self):
        shell = started()
        self.assertEqual(shell("put spare " + in_line(BEFORE)), "done")
        self.assertEqual(shell.desk()["spare"], BEFORE)
        self.assertEqual([shell("put far " + in_line(BEFORE)), shell("names")], ["operation", "ends free odd spare"])
        self.assertEqual([shell("take spare"), shell("names")], ["done", "ends free odd"])
        self.assertEqual([shell("put far " + in_line(BEFORE)), shell("names"), shell("undo 2")], ["done", "ends far free odd", "done"])
        self.assertEqual([shell("cut free 0 b 0"), shell("reader free"), shell("drop same"), shell("arrow free 0 a 0"), shell("reader free")],
                         ["done", "letters ab\nstates 1\nfirst 0\nlast 0", "done", "done", "letters ab\nstates 1\nfirst 0\nlast 0\narrow 0 a 0"])
        self.assertEqual([shell("undo 3"), shell("reader free").split("\n")[-1], shell("redo"), shell("reader free").split("\n")[-1]],
                         ["done", "arrow 0 b 0", "done", "last 0"])
        self.assertEqual([shell("claim all odd and (ends or free) -> odd"), shell("labels"), shell("claimed all"), shell("drop all"), shell("labels")],
                         ["done", "all once same", "odd and (ends or free) -> odd", "done", "once same"])

    def test_no_commands(self):
        for line in ("", " ", "fly", "Put", "names ", " names", "names names", "names\n", "labels x", "undo x", "undo ", "undo  2", "undo -1", "undo 01",
                     "undo 2 2", "undo " + "9" * 201, "redo two", "put", "put odd", "put odd ", "put odd letters", "take", "take ", "take odd ends",
                     "take Odd", "take ninechars", "arrow odd 0 a", "arrow odd 0  1", "arrow odd 0 =a 1", "arrow odd 0 A 1", "arrow odd x a 1",
                     "arrow odd 0 a 1 ", "arrow odd 0 a 1 2", "arrow odd 00 a 1", "arrow  0 a 1", "cut odd 0 1 a", "claim once", "claim once odd",
                     "claim once odd ->", "claim once odd -> ", "claim once -> odd", "claim once odd->odd", "claim once odd -> odd -> odd",
                     "claim odd -> ends", "claim Once odd -> odd", "claim once odd  -> odd", "claim once (odd) -> odd", "implied odd", "implied odd ends",
                     "implied odd -> odd or ends or free", "gap", "gap odd", "first", "first ", "first odd ends", "first (odd)", "count odd", "count 5",
                     "count 5 ", "count -1 odd", "count 05 odd", "count x odd", "count 5 odd -> ends", "true ab odd", "true odd", "true =ab",
                     "true =ab ", "true =Ab odd", "true = ab odd", "nth odd", "nth 7", "nth -7 odd", "nth 7.0 odd", "place ab odd", "place =ab", "paper odd",
                     "paper odd -> ", "reader", "reader odd ends", "claimed", "drop", "drop once same", "what", "done", "answer names", "names\nlabels",
                     "first odd\n", "put x letters ab\nstates 1\nfirst\nlast", "put x letters ab; states 1; first; last\n", "put x letters ab;states 1; first; last",
                     "put x letters ab; states 1; first; last; ", "put x letters ab; states 1; first ; last", "put x letters ba; states 1; first; last",
                     "put x letters ab; states 61; first; last", "put x letters ab; states 1; first; last; arrow 0 c 0", "put X " + ODD_LINE,
                     "first not not not not not not not not odd", "first a or (b or (c or (d or e)))", "undo 1\n", "~" * 4000):
            shell = started()
            self.assertEqual(shell(line), "what", line)
            self.assertEqual(shell.answer(line), "what", line)
            self.assertEqual(state_of(shell), state_of(started()), line)

    def test_no_lines(self):
        shell = started()
        for value in kinds_but(str):
            self.assertEqual([shell(value), shell.answer(value)], ["what", "what"])
        self.assertEqual(state_of(shell), state_of(started()))

    def test_bent_lines(self):
        told = random.Random(150)
        same = state_of(started())
        seen = {}
        for line, _ in RIGHT * 2:
            words = line.split(" ")
            for at in range(min(len(words), 8)):
                word = told.choice(WORDS)
                for bent in (words[:at] + words[at + 1:], words[:at] + [word] + words[at:], words[:at] + [word] + words[at + 1:],
                             words[:at] + [words[at], words[at]] + words[at + 1:], words[:at] + [words[at].upper()] + words[at + 1:]):
                    shell = started()
                    answer = shell(" ".join(bent))
                    first = answer.split(" ")[0]
                    seen[first] = seen.get(first, 0) + 1
                    self.assertEqual(answer, by_desk(started().desk(), " ".join(bent)))
                    if first != "done":
                        self.assertEqual(state_of(shell), same)
        for word in ("what", "done", "unknown", "none", "yes", "no", "text"):
            self.assertGreater(seen.get(word, 0), 2, (word, seen))

    def test_the_desk_is_a_twin(self):
        shell = started()
        desk = shell.desk()
        self.assertIsNot(desk, shell.desk())
        self.assertTrue(desk == shell.desk())
        desk.drop("once")
        desk.put("odd", NOTHING)
        self.assertEqual([shell("labels"), shell("reader odd")], ["once same", write_reader(ODD)])
        self.assertEqual(state_of(shell), state_of(started()))

    def test_too_many(self):
        shell = Shell("a")
        for name, size in (("a", 8), ("b", 8), ("c", 31), ("d", 1)):
            self.assertEqual(shell(f"put {name} " + in_line(sized_loop(size))), "done")
        for line in ("count 5 a and b", "first a and b", "implied a and b -> c", "gap a -> b", "nth 0 a or b", "place =aaaaaaa a and b",
                     "paper c -> d", "claim x a and b -> d", "claim x c -> a"):
            self.assertEqual(shell(line), "many 60", line)
        self.assertEqual([shell("true =aaaaaaa a and b"), shell("implied c -> d"), shell("implied a and b -> a"), shell("undo 4")],
                         ["yes", "yes", "yes", "done"])
        for name, size in (("a", 2), ("b", 2), ("c", 7), ("d", 2)):
            shell(f"put {name} " + in_line(sized_loop(size)))
        self.assertEqual([shell("count 5 a or b or c"), shell("count 5 (a or b) or (c or d)"), shell("put e " + in_line(sized_loop(1)))],
                         ["what", "many 200", "operation"])

    def test_long_texts_and_numbers(self):
        shell = Shell("a")
        shell("put all letters a; states 1; first 0; last 0; arrow 0 a 0")
        shell("put every letters a; states 1; first 0; last 0; arrow 0 a 0")
        self.assertEqual([shell("nth 400 every"), shell("nth 401 every"), shell(f"nth {LONG} every")], ["=" + "a" * 400, "many 400", "many 400"])
        self.assertEqual([shell("place =" + "a" * 3900 + " every"), shell("true =" + "a" * 3900 + " not every")], ["3900", "no"])
        self.assertEqual([shell("names"), shell(f"undo {LONG}"), shell(f"count {LONG} every")], ["all every", f"undo {LONG}", f"number {LONG}"])


def formula_of(text):
    """The formula with a text, or None."""
    try:
        return formats.read_formula(text)
    except Exception:
        return None


def by_desk(desk, line):
    """The answer to a line, by the functions of the package and a desk; written apart from the shell."""
    try:
        return answer_by_desk(desk, line)
    except UnknownName as raised:
        return "unknown " + raised.name
    except InvalidNumber as raised:
        return "number " + str(raised.value)
    except InvalidText:
        return "text"
    except InvalidOperation:
        return "operation"
    except NotLone as raised:
        return "lone =" + raised.text
    except Broken as raised:
        return "broken " + raised.name
    except TooMany as raised:
        return "many " + str(raised.limit)
    except NothingToUndo as raised:
        return "undo " + str(raised.many)


def is_number(word):
    return word.isdigit() and len(word) <= 200 and str(int(word)) == word


def is_word(word, most=10 ** 9):
    return 0 < len(word) <= most and all(sign in "abcdefghijklmnopqrstuvwxyz" for sign in word)


def answer_by_desk(desk, line):
    words = line.split(" ")
    head, rest = words[0], words[1:]
    if "\n" in line:
        return "what"
    if head in ("names", "labels") and not rest:
        return " ".join(desk.names if head == "names" else desk.labels) or "none"
    if head in ("undo", "redo") and (not rest or (len(rest) == 1 and is_number(rest[0]))):
        many = int(rest[0]) if rest else 1
        desk.undo(many=many) if head == "undo" else desk.redo(many=many)
        return "done"
    if head in ("take", "drop", "reader", "claimed") and len(rest) == 1 and is_word(rest[0], 8):
        if head == "reader":
            return write_reader(desk[rest[0]])
        if head == "claimed":
            return " -> ".join(map(str, desk.claimed(rest[0])))
        desk.take(rest[0]) if head == "take" else desk.drop(rest[0])
        return "done"
    if head in ("arrow", "cut") and len(rest) == 4 and is_word(rest[0], 8) and is_number(rest[1]) and is_word(rest[2]) and is_number(rest[3]):
        call = desk.add_arrow if head == "arrow" else desk.cut_arrow
        call(rest[0], int(rest[1]), rest[2], int(rest[3]))
        return "done"
    if head == "put" and rest and is_word(rest[0], 8):
        try:
            reader = formats.read_reader(" ".join(rest[1:]).replace("; ", "\n"))
        except formats.ParseError:
            return "what"
        desk.put(rest[0], reader)
        return "done"
    return answer_of_formulas(desk, head, rest)


def answer_of_formulas(desk, head, rest):
    shelf = desk.shelf()
    if head in ("claim", "implied", "gap", "paper"):
        label, rest = (rest[0], rest[1:]) if head == "claim" and rest else ("x", rest)
        both = [formula_of(text) for text in " ".join(rest).split(" -> ")]
        if len(both) != 2 or None in both or not is_word(label, 8):
            return "what"
        if head == "claim":
            desk.claim(label, *both)
            return "done"
        if head == "implied":
            return "yes" if is_implied(shelf, *both) else "no"
        if head == "paper":
            return write_value(implied_paper(shelf, *both))
        gap = first_gap(shelf, *both)
        return "none" if gap is None else "=" + gap
    if head == "first":
        formula = formula_of(" ".join(rest))
        return "what" if formula is None else write_value(first_true(shelf, formula))
    if head not in ("count", "nth", "true", "place") or not rest:
        return "what"
    formula, word = formula_of(" ".join(rest[1:])), rest[0]
    if formula is None:
        return "what"
    if head in ("true", "place"):
        if word != "=" and not (word[:1] == "=" and is_word(word[1:])):
            return "what"
        return ("yes" if is_true(shelf, formula, word[1:]) else "no") if head == "true" else str(true_place(shelf, formula, word[1:]))
    if not is_number(word):
        return "what"
    return str(desk.count(formula, int(word))) if head == "count" else write_value(nth_true(shelf, formula, int(word)))


class SessionTests(unittest.TestCase):
    def drawn_line(self, told, trees, readers):
        name, label = told.choice(("a", "b", "c", "d", "e", "and", "X")), told.choice(("p", "q", "all", "one"))
        formula, other = [str(Formula(told.choice(trees))) for _ in range(2)]
        text = "=" + "".join(told.choice("aabbbc"[:told.choice((4, 5, 5, 6))]) for _ in range(told.randrange(5)))
        number = told.choice(("0", "1", "2", "3", "5", "9", "401", "100", "07"))
        pair = f"{formula} -> {told.choice((other, formula, f'not ({formula})', 'all', 'none -> none'))}"
        return told.choice((
            f"put {name} {in_line(told.choice(readers))}", f"put {name} {in_line(told.choice(readers))}", f"take {name}",
            f"arrow {name} {told.randrange(3)} {told.choice('abc')} {told.randrange(3)}", f"cut {name} {told.randrange(3)} {told.choice('ab')} {told.randrange(3)}",
            f"claim {label} {pair}", f"claim {label} {pair}", f"drop {label}", "undo", "redo", f"undo {number}", f"redo {number}", "names", "labels",
            f"reader {name}", f"claimed {label}", f"count {number} {formula}", f"true {text} {formula}", f"implied {pair}", f"first {formula}",
            f"gap {pair}", f"nth {number} {formula}", f"place {text} {formula}", f"paper {pair}"))

    def test_sessions(self):
        trees = some_trees(151, 40, "abc")
        readers = [*some_lone_readers(152, 20, 2), *some_readers(153, 4, 3), ODD, ENDA, EVERY, SOME, SOME, SOME, NOTHING, BEFORE, ODD.over("abc")]
        seen = {}
        for seed in range(40):
            told = random.Random(seed)
            shell, desk = Shell("ab"), Desk("ab")
            for name in "abc":
                line = f"put {name} {in_line(told.choice(readers))}"
                self.assertEqual(shell(line), by_desk(desk, line))
            for _ in range(60):
                line = self.drawn_line(told, trees, readers)
                answer = shell(line) if told.random() < 0.5 else shell.answer(line)
                self.assertEqual(answer, by_desk(desk, line), line)
                self.assertTrue(shell.desk() == desk)
                self.assertEqual(shell.desk().undo(many=0), desk.undo(many=0))
                word = answer.split(" ")[0] if " " in answer else answer if answer in ("done", "what", "yes", "no", "none", "text", "operation") else "other"
                seen[word] = seen.get(word, 0) + 1
        for word in ("done", "what", "yes", "no", "none", "text", "operation", "unknown", "number", "lone", "broken", "undo", "("):
            self.assertGreater(seen.get(word, 0), 5, (word, seen))

    def test_papers(self):
        shell = Shell("ab")
        shell("put a " + in_line(ODD))
        shell("put b " + in_line(ENDA))
        for line, one, other in (("a -> b", "a", "b"), ("a and b -> a", "a and b", "a"), ("none -> a", "none", "a")):
            paper = read_value(shell("paper " + line))
            self.assertEqual(paper, implied_paper(shell.desk().shelf(), formats.read_formula(one), formats.read_formula(other)))


if __name__ == "__main__":
    unittest.main()
