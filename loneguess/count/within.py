"""Whether a reader reads only texts of a lone one, found by counting."""

from loneguess.count.spaces import fair_paper, first_text, is_hollow, is_space_paper
from loneguess.count.tallies import Tally
from loneguess.read.lone import check_lone, is_paper_text
from loneguess.read.made import both, check_alike
from loneguess.read.readers import reader_of_all


def tally_within(one, other):
    """The tally of the first reader less both; other must be lone."""
    _check(one, other)
    return _tally_less(one, other)


def is_within(one, other):
    """Whether each text of the first reader is one of the second one."""
    return is_hollow(tally_within(one, other))


def outside(one, other):
    """The first text that only the first reader reads, or None."""
    return first_text(tally_within(one, other))


def within_paper(one, other):
    """A paper that all texts of the first reader are texts of the second one, or that they are not."""
    return fair_paper(tally_within(one, other))


def is_within_paper(one, other, value):
    """Whether the value is such a paper of two readers."""
    tally = tally_within(one, other)
    if isinstance(value, tuple) and len(value) == 2 and value[0] == "text":
        return is_paper_text(one.letters, value[1]) and value[1] in one and value[1] not in other
    return is_space_paper(tally, value)


def is_full(reader):
    """Whether a lone reader reads all texts."""
    check_lone(reader)
    return is_hollow(_tally_less(reader_of_all(reader.letters), reader))


def are_alike(one, other):
    """Whether two lone readers read the same texts."""
    check_alike(one, other)
    check_lone(one)
    check_lone(other)
    return is_hollow(_tally_less(one, other)) and is_hollow(_tally_less(other, one))


def are_apart(one, other):
    """Whether no text is read by both readers."""
    return is_hollow(Tally(((1, both(one, other)),)))


def is_nearly_within(one, other):
    """Whether all texts of the first reader but finitely many are texts of the second one."""
    return ends_early(tally_within(one, other))


def rest(one, other):
    """The number of texts that only the first reader reads, or None if there are infinitely many."""
    _check(one, other)
    check_lone(one)
    tally = _tally_less(one, other)
    if not ends_early(tally):
        return None
    return sum(tally.totals(tally.width))


def ends_early(tally):
    """Whether the totals are 0 for all lengths from the width on."""
    return not any(tally.totals(2 * tally.width)[tally.width:])


def _check(one, other):
    check_alike(one, other)
    check_lone(other)


def _tally_less(one, other):
    return Tally(((1, one), (-1, both(one, other))))
