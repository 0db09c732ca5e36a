"""Readers, formulas and values as texts."""

from loneguess.base.names import MAX_DIGITS, is_integer, is_plain
from loneguess.errors import InvalidFormula, InvalidLetters, InvalidNumber, InvalidOperation, InvalidReader, ParseError
from loneguess.formula.formulas import MAX_DEPTH, Formula, check_formula
from loneguess.read.readers import Reader, check_reader

_MAX_TUPLES = 8
_MAX_STRING = 400

# The words with which the first lines of the text of a reader begin.
_HEADS = ("letters", "states", "first", "last")


def write_reader(reader):
    """The text of a reader."""
    check_reader(reader)
    lines = ["letters " + reader.letters, f"states {len(reader)}"]
    lines.append(_joined("first", reader.firsts))
    lines.append(_joined("last", reader.lasts))
    lines.extend([_joined("arrow", arrow) for arrow in reader.arrows])
    return "\n".join(lines)


def write_formula(formula):
    """The text of a formula."""
    check_formula(formula)
    return str(formula)


def write_value(value):
    """The text of a value: of tuples, strings, integers and None."""
    if not _is_told(value, _MAX_TUPLES):
        raise InvalidOperation("this value has no text")
    return _value_text(value)


def read_reader(text):
    """The reader that has this text."""
    lines = _lines_of(text)
    for at, line in enumerate(lines):
        if not _has_form(at, line.split(" ")):
            raise ParseError(at)
    if len(lines) < len(_HEADS):
        raise ParseError(len(lines))
    words = [line.split(" ")[1:] for line in lines]
    letters, size = words[0][0], int(words[1][0])
    firsts, lasts = [tuple([int(state) for state in states]) for states in words[2:4]]
    arrows = tuple([(int(state), letter, int(other)) for state, letter, other in words[4:]])
    try:
        return Reader(letters, size, firsts, lasts, arrows)
    except (InvalidLetters, InvalidNumber, InvalidReader):
        raise ParseError(len(lines))


def read_formula(text):
    """The formula that has this text."""
    lines = _lines_of(text)
    formula = _formula_in(lines[0])
    _check_single(lines)
    return formula


def read_value(text):
    """The value that has this text."""
    lines = _lines_of(text)
    value = _value_in(lines[0])
    _check_single(lines)
    return value


def is_count(word):
    """Whether a word is an integer of at least 0, as it is written in texts."""
    if not 1 <= len(word) <= MAX_DIGITS or not all(["0" <= sign <= "9" for sign in word]):
        return False
    return word == "0" or word[0] != "0"


def _joined(word, parts):
    return " ".join([word, *[str(part) for part in parts]])


def _lines_of(text):
    if not isinstance(text, str):
        raise InvalidOperation("a text is a string")
    return text.split("\n")


def _check_single(lines):
    """Raises ParseError if there are more lines than one."""
    if len(lines) > 1:
        raise ParseError(1)


def _has_form(at, words):
    """Whether these words can stand in the line of a reader with an index."""
    head, parts = words[0], words[1:]
    if at >= len(_HEADS):
        return head == "arrow" and len(parts) == 3 and is_count(parts[0]) and parts[1] != "" and is_count(parts[2])
    if head != _HEADS[at]:
        return False
    if head == "letters":
        return len(parts) == 1 and parts[0] != ""
    if head == "states" and len(parts) != 1:
        return False
    return all([is_count(part) for part in parts])


def _formula_in(line):
    """The formula whose text is a line."""
    words = line.replace("(", "( ").replace(")", " )").split(" ")
    tree, _ = _tree_at(words, 0, MAX_DEPTH)
    formula = _formula_of(tree)
    # Brackets and words that are lacking, needless or left over are not minded until here.
    if str(formula) != line:
        raise ParseError(0)
    return formula


def _formula_of(tree):
    try:
        return Formula(tree)
    except InvalidFormula:
        raise ParseError(0)


def _tree_at(words, at, depth):
    """The tree that begins at an index, perhaps one of two trees and a word between, and the index behind it."""
    one, behind = _part_at(words, at, depth)
    if _word_at(words, behind) not in ("and", "or"):
        return one, behind
    other, end = _part_at(words, behind + 1, depth)
    return (words[behind], one, other), end


def _part_at(words, at, depth):
    """The tree that begins at an index and stands in brackets if it has two parts, and the index behind it.

    A tree has at most so many tuples one in another as the depth tells; so it has no more
    brackets and "not" one in another, and reading goes no deeper.
    """
    word = _word_at(words, at)
    if depth == 0:
        raise ParseError(0)
    if word == "not":
        part, behind = _part_at(words, at + 1, depth - 1)
        return ("not", part), behind
    if word == "(":
        part, behind = _tree_at(words, at + 1, depth - 1)
        return part, behind + 1
    if word in ("all", "none"):
        return (word,), at + 1
    return ("name", word), at + 1


def _word_at(words, at):
    """The word at an index; the empty one behind the last one."""
    return words[at] if at < len(words) else ""


def _is_told(value, depth):
    """Whether a value has a text, with at most so many tuples one in another."""
    if isinstance(value, tuple):
        return depth > 0 and all([_is_told(part, depth - 1) for part in value])
    if isinstance(value, str):
        return len(value) <= _MAX_STRING and is_plain(value)
    return value is None or is_integer(value)


def _value_text(value):
    if isinstance(value, tuple):
        return " ".join(["(", *[_value_text(part) for part in value], ")"])
    if isinstance(value, str):
        return "=" + value
    return "none" if value is None else str(value)


def _value_in(line):
    """The value whose text is a line."""
    begun = [[]]
    for word in line.split(" "):
        if word == "(" and len(begun) <= _MAX_TUPLES:
            begun.append([])
        elif word == ")" and len(begun) > 1:
            parts = begun.pop()
            begun[-1].append(tuple(parts))
        else:
            begun[-1].append(_single_in(word))
    if len(begun) > 1 or len(begun[0]) != 1:
        raise ParseError(0)
    return begun[0][0]


def _single_in(word):
    """The value that is no tuple and whose text is a word."""
    if word == "none":
        return None
    if word[:1] == "=" and len(word) <= _MAX_STRING + 1 and is_plain(word[1:]):
        return word[1:]
    if is_count(word):
        return int(word)
    if word[:1] == "-" and word != "-0" and is_count(word[1:]):
        return -int(word[1:])
    raise ParseError(0)
