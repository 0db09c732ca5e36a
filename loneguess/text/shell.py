"""A shell over a desk: commands are lines, answers are texts."""

from loneguess.base.names import is_name, is_plain
from loneguess.desk.desk import Desk
from loneguess.errors import Broken, InvalidNumber, InvalidOperation, InvalidText, NothingToUndo, NotLone
from loneguess.errors import ParseError, TooMany, UnknownName
from loneguess.formula.compare import first_gap, first_true, implied_paper, is_implied
from loneguess.formula.shelves import is_true
from loneguess.listing.places import nth_true, true_place
from loneguess.text.formats import is_count, read_formula, read_reader, write_formula, write_reader, write_value


class Shell:
    """A desk that is worked by lines."""

    def __init__(self, letters):
        self._desk = Desk(letters)

    def desk(self):
        """A twin of the desk."""
        return self._desk.twin()

    def answer(self, line):
        """Does the command of a line, and returns a text."""
        try:
            return _done(self._desk, line)
        except ParseError:
            return "what"
        except UnknownName as unknown:
            return f"unknown {unknown.name}"
        except InvalidNumber as wrong:
            return f"number {wrong.value}"
        except InvalidText:
            return "text"
        except InvalidOperation:
            return "operation"
        except NotLone as twice:
            return f"lone ={twice.text}"
        except Broken as broken:
            return f"broken {broken.name}"
        except TooMany as beyond:
            return f"many {beyond.limit}"
        except NothingToUndo as lacking:
            return f"undo {lacking.many}"

    def __call__(self, line):
        return self.answer(line)


def _put(desk, name, reader):
    desk.put(name, reader)
    return "done"


def _take(desk, name):
    desk.take(name)
    return "done"


def _arrow(desk, name, state, letter, other):
    desk.add_arrow(name, state, letter, other)
    return "done"


def _cut(desk, name, state, letter, other):
    desk.cut_arrow(name, state, letter, other)
    return "done"


def _claim(desk, label, pair):
    one, other = pair
    desk.claim(label, one, other)
    return "done"


def _drop(desk, label):
    desk.drop(label)
    return "done"


def _undo(desk, many):
    desk.undo(many=many)
    return "done"


def _redo(desk, many):
    desk.redo(many=many)
    return "done"


def _names(desk):
    return _listed(desk.names)


def _labels(desk):
    return _listed(desk.labels)


def _reader(desk, name):
    return write_reader(desk[name])


def _claimed(desk, label):
    one, other = desk.claimed(label)
    return f"{write_formula(one)} -> {write_formula(other)}"


def _count(desk, size, formula):
    return str(desk.count(formula, size))


def _true(desk, text, formula):
    return _yes_or_no(is_true(desk.shelf(), formula, text))


def _implied(desk, pair):
    return _yes_or_no(is_implied(desk.shelf(), *pair))


def _first(desk, formula):
    return write_value(first_true(desk.shelf(), formula))


def _gap(desk, pair):
    return write_value(first_gap(desk.shelf(), *pair))


def _nth(desk, index, formula):
    return write_value(nth_true(desk.shelf(), formula, index))


def _place(desk, text, formula):
    return str(true_place(desk.shelf(), formula, text))


def _paper(desk, pair):
    return write_value(implied_paper(desk.shelf(), *pair))


def _listed(names):
    return " ".join(names) if names else "none"


def _yes_or_no(value):
    return "yes" if value else "no"


def _name_in(word):
    if not is_name(word):
        raise ParseError(0)
    return word


def _number_in(word):
    if not is_count(word):
        raise ParseError(0)
    return int(word)


def _letter_in(word):
    if word == "" or not is_plain(word):
        raise ParseError(0)
    return word


def _text_in(word):
    if word[:1] != "=" or not is_plain(word[1:]):
        raise ParseError(0)
    return word[1:]


def _reader_in(words):
    if "\n" in words:
        raise ParseError(0)
    return read_reader(words.replace("; ", "\n"))


def _formula_in(words):
    return read_formula(words)


def _pair_in(words):
    one, _, other = words.partition(" -> ")
    return (read_formula(one), read_formula(other))


_ACTIONS = {
    "put": _put, "take": _take, "arrow": _arrow, "cut": _cut, "claim": _claim, "drop": _drop,
    "undo": _undo, "redo": _redo, "names": _names, "labels": _labels, "reader": _reader,
    "claimed": _claimed, "count": _count, "true": _true, "implied": _implied, "first": _first,
    "gap": _gap, "nth": _nth, "place": _place, "paper": _paper,
}

# What stands behind each command; what can have several words stands last.
_KINDS = {
    "put": ("name", "reader"), "take": ("name",), "arrow": ("name", "number", "letter", "number"),
    "cut": ("name", "number", "letter", "number"), "claim": ("name", "pair"), "drop": ("name",),
    "undo": ("number",), "redo": ("number",), "names": (), "labels": (), "reader": ("name",),
    "claimed": ("name",), "count": ("number", "formula"), "true": ("text", "formula"), "implied": ("pair",),
    "first": ("formula",), "gap": ("pair",), "nth": ("number", "formula"), "place": ("text", "formula"),
    "paper": ("pair",),
}

_READERS = {
    "name": _name_in, "number": _number_in, "letter": _letter_in, "text": _text_in,
    "reader": _reader_in, "formula": _formula_in, "pair": _pair_in,
}

_SHORT_LINES = {"undo": "undo 1", "redo": "redo 1"}


def _done(desk, line):
    """The answer to a line; raises ParseError if it is no command."""
    if not isinstance(line, str):
        raise ParseError(0)
    told = _SHORT_LINES.get(line, line)
    word = told.split(" ")[0]
    if word not in _ACTIONS:
        raise ParseError(0)
    values = _values_in(told, _KINDS[word])
    action = _ACTIONS[word]
    return action(desk, *values)


def _values_in(line, kinds):
    """What stands behind the first word of a line, read by these kinds."""
    parts = line.split(" ", len(kinds))
    if len(parts) != len(kinds) + 1 or " " in parts[0]:
        raise ParseError(0)
    values = []
    for kind, part in zip(kinds, parts[1:]):
        read = _READERS[kind]
        values.append(read(part))
    return values
