"""Formulas on a shelf, compared by the totals of their tallies."""

from loneguess.count.spaces import fair_paper, first_text, is_hollow, is_space_paper
from loneguess.count.tallies import Tally
from loneguess.formula.formulas import name_sets, numbers_of
from loneguess.formula.shelves import check_formula_on, check_letters_of, check_shelf
from loneguess.formula.shelves import is_true_at, parts_by, tally_for, tally_of
from loneguess.read.lone import is_paper_text
from loneguess.read.readers import check_reader


def is_implied(shelf, one, other):
    """Whether the first formula implies the second one."""
    return is_hollow(_gap_tally(shelf, one, other))


def are_equal(shelf, one, other):
    """Whether two formulas are true at the same texts."""
    tallies = [_gap_tally(shelf, one, other), _gap_tally(shelf, other, one)]
    return all([is_hollow(tally) for tally in tallies])


def is_never(shelf, formula):
    """Whether a formula is true at no text."""
    return is_hollow(tally_of(shelf, formula))


def first_true(shelf, formula):
    """The first text at which a formula is true, or None."""
    return first_text(tally_of(shelf, formula))


def first_gap(shelf, one, other):
    """The first text at which the first formula is true and the second one is not, or None."""
    return first_text(_gap_tally(shelf, one, other))


def implied_paper(shelf, one, other):
    """A paper that the first formula implies the second one, or that it does not."""
    return fair_paper(_gap_tally(shelf, one, other))


def is_implied_paper(shelf, one, other, value):
    """Whether the value is such a paper of two formulas."""
    tally = _gap_tally(shelf, one, other)
    if isinstance(value, tuple) and len(value) == 2 and value[0] == "text":
        return is_paper_text(shelf.letters, value[1]) and _is_gap(shelf, one, other, value[1])
    return is_space_paper(tally, value)


def does_fit(shelf, reader, formula):
    """Whether a formula is true at all texts that a reader reads."""
    return is_hollow(_miss_tally(shelf, reader, formula))


def first_miss(shelf, reader, formula):
    """The first text that a reader reads at which a formula is not true, or None."""
    return first_text(_miss_tally(shelf, reader, formula))


def _is_gap(shelf, one, other, text):
    return is_true_at(shelf, one, text) and not is_true_at(shelf, other, text)


def _gap_tally(shelf, one, other):
    """The tally of "one and not other"."""
    check_formula_on(shelf, one)
    check_formula_on(shelf, other)
    names = tuple(sorted(list({name: True for name in one.names + other.names})))
    # By truth values, for a tree of both formulas could have too many tuples one in another.
    truths = [one.holds(some) and not other.holds(some) for some in name_sets(names)]
    return Tally(parts_by(shelf, numbers_of(names, truths)))


def _miss_tally(shelf, reader, formula):
    """The product of the tally of the part (1, reader) with the tally of "not formula"."""
    check_shelf(shelf)
    check_reader(reader)
    check_formula_on(shelf, formula)
    check_letters_of(shelf.letters, reader)
    truths = [not formula.holds(some) for some in name_sets(formula.names)]
    return tally_for(reader, parts_by(shelf, numbers_of(formula.names, truths)))
