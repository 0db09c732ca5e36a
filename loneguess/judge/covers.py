"""Whether the readers of a shelf read together what a further reader reads, found by counting."""

from loneguess.count.spaces import fair_paper, first_text, is_hollow, is_space_paper
from loneguess.count.tallies import Tally
from loneguess.formula.formulas import name_sets
from loneguess.formula.shelves import check_letters_of, check_names_on, check_shelf, reader_of, tally_for
from loneguess.read.lone import is_paper_text
from loneguess.read.readers import check_reader


def is_cover(shelf, reader, names):
    """Whether each text of the reader is read by at least one of the readers with these names."""
    return is_hollow(_checked_tally(shelf, reader, names))


def is_split(shelf, reader, names):
    """Whether each text of the reader is read by exactly one of the readers with these names."""
    tally = _checked_tally(shelf, reader, names)
    pairs = [tally[at] for at, some in enumerate(name_sets(names)) if len(some) == 2]
    return is_hollow(tally) and all([is_hollow(Tally((part,))) for part in pairs])


def uncovered(shelf, reader, names):
    """The first text of the reader that none of the readers with these names reads, or None."""
    return first_text(_checked_tally(shelf, reader, names))


def least_covers(shelf, reader):
    """The sets of names that cover the reader and contain no other set that does, ascending."""
    covers, _ = _sorted_sets(shelf, reader)
    return tuple(sorted([some for some in covers if not any([_is_inside(less, some) for less in covers])]))


def open_sets(shelf, reader):
    """The sets of names that do not cover the reader and are contained in no other such set, ascending."""
    _, others = _sorted_sets(shelf, reader)
    return tuple(sorted([some for some in others if not any([_is_inside(some, more) for more in others])]))


def cover_paper(shelf, reader, names):
    """A paper that a set of names covers the reader, or that it does not."""
    return fair_paper(_checked_tally(shelf, reader, names))


def is_cover_paper(shelf, reader, names, value):
    """Whether the value is such a paper."""
    tally = _checked_tally(shelf, reader, names)
    if isinstance(value, tuple) and len(value) == 2 and value[0] == "text":
        return is_paper_text(shelf.letters, value[1]) and _is_open_at(shelf, reader, names, value[1])
    return is_space_paper(tally, value)


def _checked_tally(shelf, reader, names):
    """The product of the tally of the reader with the tally of "none of these names"."""
    check_shelf(shelf)
    check_reader(reader)
    check_names_on(shelf, names)
    check_letters_of(shelf.letters, reader)
    return tally_for(reader, [(1 - 2 * (len(some) & 1), reader_of(shelf, some)) for some in name_sets(names)])


def _sorted_sets(shelf, reader):
    """The sets of names of the shelf that cover the reader, and those that do not."""
    check_shelf(shelf)
    covers, others = [], []
    # The set of all names comes first: it decides what is raised.
    for names in name_sets(shelf.names)[::-1]:
        if is_cover(shelf, reader, names):
            covers.append(names)
        else:
            others.append(names)
    return covers, others


def _is_inside(less, more):
    """Whether a set of names is contained in another one, which is not the same."""
    return less != more and all([name in more for name in less])


def _is_open_at(shelf, reader, names, text):
    return text in reader and not any([text in shelf[name] for name in names])
