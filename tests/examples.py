"""Runs examples that are written as the document writes them."""

from loneguess import errors
from loneguess.read import readers

VALUES = """
>>> ODD = Reader("ab", 2, (0,), (1,), ((0, "a", 1), (0, "b", 0), (1, "a", 0), (1, "b", 1)))
>>> ENDA = Reader("ab", 2, (0,), (1,), ((0, "a", 0), (0, "a", 1), (0, "b", 0)))
>>> BEFORE = Reader("ab", 3, (0,), (2,), ((0, "a", 0), (0, "a", 1), (0, "b", 0), (1, "a", 2), (1, "b", 2)))
>>> SOME = Reader("ab", 2, (0,), (1,), ((0, "a", 0), (0, "a", 1), (0, "b", 0), (1, "a", 1), (1, "b", 1)))
>>> EVERY = Reader("ab", 1, (0,), (0,), ((0, "a", 0), (0, "b", 0)))
"""


def run_examples(case, text, *modules):
    """Runs the lines behind '>>>', with the names of these modules and the values above."""
    names = {}
    for module in (errors, readers, *modules):
        names.update(vars(module))
    lines = [line.strip() for line in (VALUES + text).split("\n") if line]
    for at, line in enumerate(lines):
        if line.startswith(">>> "):
            wanted = lines[at + 1] if at + 1 < len(lines) else ">>> "
            with case.subTest(line):
                _run(case, line[4:], wanted, names)


def _run(case, code, wanted, names):
    if wanted.startswith(">>> "):
        exec(code, names)
    elif wanted.startswith("raises "):
        error, _, kept = wanted[7:].partition("(")
        with case.assertRaises(names[error]) as caught:
            eval(code, names)
        if kept:
            case.assertEqual(caught.exception.args, (eval(kept.rstrip(")")),))
    else:
        # By their texts, so that True is not 1 and a tuple is not a list.
        case.assertEqual(repr(eval(code, names)), repr(eval(wanted, names)))
