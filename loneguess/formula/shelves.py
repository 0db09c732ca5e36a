"""Shelves: lone readers under names, and the formulas that are true at their texts."""

from loneguess.base.names import check_letters, check_text, is_name
from loneguess.count.tallies import Tally
from loneguess.errors import InvalidName, InvalidOperation, UnknownName
from loneguess.formula.formulas import MAX_NAMES, check_formula, is_name_set, numbers
from loneguess.read.lone import check_lone
from loneguess.read.made import both
from loneguess.read.readers import check_reader, reader_of_all
from loneguess.read.rows import check_length


class Shelf:
    """Letters, and at most four lone readers with these letters under names; it never changes."""

    def __init__(self, letters, readers):
        check_letters(letters)
        if not isinstance(readers, dict) or len(readers) > MAX_NAMES:
            raise InvalidOperation("readers are told as a dict with at most four names")
        for name in readers:
            check_name(name)
        # Which of several wrong readers is told must not hang on the order of the dict.
        names = sorted(list(readers))
        for name in names:
            check_reader(readers[name])
        for name in names:
            check_letters_of(letters, readers[name])
        for name in names:
            check_lone(readers[name])
        self._letters = letters
        self._names = tuple(names)
        self._readers = {name: readers[name] for name in names}

    @property
    def letters(self):
        """The letters."""
        return self._letters

    @property
    def names(self):
        """The set of the names."""
        return self._names

    def with_reader(self, name, reader):
        """The shelf with this reader, in the place of the one that is there."""
        check_name(name)
        check_reader(reader)
        return Shelf(self._letters, {**self._readers, name: reader})

    def without_reader(self, name):
        """The shelf without the reader of this name."""
        check_known(self._names, name)
        return Shelf(self._letters, {other: self._readers[other] for other in self._names if other != name})

    def __contains__(self, x):
        return x in self._names

    def __getitem__(self, at):
        check_known(self._names, at)
        return self._readers[at]

    def __iter__(self):
        return iter(self._names)

    def __len__(self):
        return len(self._names)

    def __eq__(self, other):
        return (isinstance(other, Shelf) and self._letters == other._letters
                and self._readers == other._readers)

    def __str__(self):
        return f"shelf of {len(self._names)} readers over {self._letters}"


def reader_of(shelf, names):
    """A reader of the texts that the readers of all names of a set read."""
    check_shelf(shelf)
    check_names_on(shelf, names)
    if not names:
        return reader_of_all(shelf.letters)
    found = shelf[names[0]]
    for name in names[1:]:
        found = both(found, shelf[name])
    return found


def tally_of(shelf, formula):
    """The tally whose value is 1 at the texts at which a formula is true, and 0 elsewhere."""
    check_formula_on(shelf, formula)
    return Tally(parts_by(shelf, numbers(formula)))


def is_true(shelf, formula, text):
    """Whether a formula is true at a text."""
    check_formula_on(shelf, formula)
    check_text(shelf.letters, text)
    return is_true_at(shelf, formula, text)


def counts(shelf, formula, size):
    """The tuple of the numbers of the texts at which a formula is true, for all lengths below this one."""
    check_formula_on(shelf, formula)
    check_length(size)
    return tally_of(shelf, formula).totals(size)


def check_shelf(value):
    """Raises InvalidOperation unless the value is a shelf."""
    if not isinstance(value, Shelf):
        raise InvalidOperation("a shelf is wanted")


def check_name(value):
    """Raises InvalidName unless the value is a name."""
    if not is_name(value):
        raise InvalidName("a name has one to eight letters a to z")


def check_letters_of(letters, reader):
    """Raises InvalidOperation unless a reader has these letters."""
    if reader.letters != letters:
        raise InvalidOperation("a reader with the letters " + letters + " is wanted")


def check_names_on(shelf, value):
    """Raises InvalidOperation unless the value is a set of names of a shelf."""
    if not is_name_set(value) or not all([name in shelf for name in value]):
        raise InvalidOperation("a set of names of the shelf is wanted")


def check_formula_on(shelf, formula):
    """Raises an error unless there are a shelf and a formula, and the shelf has the formula's names."""
    check_shelf(shelf)
    check_formula(formula)
    for name in formula.names:
        check_known(shelf.names, name)


def is_true_at(shelf, formula, text):
    """Whether a formula is true at a text, all of them being right."""
    return formula.holds(tuple([name for name in shelf.names if text in shelf[name]]))


def parts_by(shelf, pairs):
    """The parts of a tally for these pairs (names, number); one with the number 0 if there are none."""
    if not pairs:
        return ((0, reader_of(shelf, ())),)
    return tuple([(number, reader_of(shelf, names)) for names, number in pairs])


def tally_for(reader, parts):
    """The product of the tally of the part (1, reader) with the tally of these parts."""
    # Not by "product", so that readers with too many states are refused ahead of a width that is too great.
    return Tally(tuple([(number, both(reader, other)) for number, other in parts]))


def check_known(names, value):
    """Raises UnknownName unless the value is one of these names."""
    if value not in names:
        raise UnknownName(value)
