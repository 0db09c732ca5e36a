"""Desks: lone readers and claims of formulas that are kept, changed, and taken back."""

from loneguess.base.names import is_integer
from loneguess.desk.history import Block, History
from loneguess.errors import Broken, InvalidNumber, NothingToUndo
from loneguess.formula.compare import is_implied
from loneguess.formula.shelves import Shelf, check_formula_on, check_known, check_name, tally_of
from loneguess.read.rows import check_length


class Desk:
    """Lone readers with the same letters under names, and claims, which are true, under labels."""

    def __init__(self, letters):
        self._history = History(((Shelf(letters, {}), {}),), 0)
        # What is kept for the blocks that have begun and not ended; None outside of all blocks.
        self._block = None

    @property
    def letters(self):
        """The letters."""
        return self._history.readers.letters

    @property
    def names(self):
        """The set of the names of readers."""
        return self._history.reader_names

    @property
    def labels(self):
        """The set of the labels of claims."""
        return tuple(sorted(list(self._history.claims)))

    def put(self, name, reader):
        """Keeps a reader under a name, in the place of the one that is there."""
        self._keep_readers(self._history.readers.with_reader(name, reader))

    def add_arrow(self, name, state, letter, other):
        """Puts one arrow more into a reader."""
        self.put(name, self[name].with_arrow(state, letter, other))

    def cut_arrow(self, name, state, letter, other):
        """Takes an arrow out of a reader."""
        self.put(name, self[name].without_arrow(state, letter, other))

    def take(self, name):
        """Takes a reader away."""
        check_known(self.names, name)
        claims = self._history.claims
        for label in self.labels:
            one, other = claims[label]
            if name in one.names or name in other.names:
                raise Broken(label)
        self._history = self._history.followed_by(self._history.readers.without_reader(name), claims)

    def claim(self, label, one, other):
        """Keeps a claim under a label: that the first formula implies the second one."""
        readers, claims = self._history.readers, self._history.claims
        check_name(label)
        _check_claim(readers, label, (one, other))
        self._history = self._history.followed_by(readers, {**claims, label: (one, other)})

    def drop(self, label):
        """Takes a claim away."""
        check_known(self.labels, label)
        claims = self._history.claims
        rest = {other: claims[other] for other in claims if other != label}
        self._history = self._history.followed_by(self._history.readers, rest)

    def claimed(self, label):
        """The pair of the formulas of a claim."""
        check_known(self.labels, label)
        return self._history.claims[label]

    def shelf(self):
        """The shelf with these readers."""
        return self._history.readers

    def count(self, formula, size):
        """The number of the texts of a length at which a formula is true."""
        check_formula_on(self._history.readers, formula)
        check_length(size)
        return tally_of(self._history.readers, formula).total(size)

    def undo(self, *, many=1):
        """Takes back so many calls, and returns how many can be undone then."""
        _check_many(many)
        return self._move(-many, many)

    def redo(self, *, many=1):
        """Does so many calls again, and returns how many can be undone then."""
        _check_many(many)
        return self._move(many, many)

    def trial(self):
        """The desk, as what "with" takes: at the end of the block it is as it was at its beginning."""
        return self

    def during(self, call):
        """What the call returns for the desk, which is then as it was before."""
        history = self._history
        try:
            return call(self)
        finally:
            self._history = history

    def twin(self):
        """An independent copy, which can be undone and done again as this desk can."""
        found = Desk(self.letters)
        found._history = self._history
        return found

    def _keep_readers(self, readers):
        """Keeps other readers, if all claims are true of them."""
        for label in self.labels:
            _check_claim(readers, label, self._history.claims[label])
        self._history = self._history.followed_by(readers, self._history.claims)

    def _move(self, steps, many):
        at = self._history.at + steps
        if not self._history.has(at):
            raise NothingToUndo(many)
        self._history = self._history.moved_to(at)
        return at

    def __enter__(self):
        self._block = Block(self._history, self._block)
        return self

    def __exit__(self, *told):
        self._history = self._block.history
        self._block = self._block.outer

    def __contains__(self, x):
        return x in self._history.readers

    def __getitem__(self, at):
        return self._history.readers[at]

    def __iter__(self):
        return iter(self._history.reader_names)

    def __len__(self):
        return len(self._history.reader_names)

    def __eq__(self, other):
        return (isinstance(other, Desk) and self._history.readers == other._history.readers
                and self._history.claims == other._history.claims)

    def __str__(self):
        return f"desk of {len(self._history.reader_names)} readers, {len(self._history.claims)} claims"


def _check_claim(readers, label, claim):
    """Raises Broken unless a claim is true of the readers of a shelf."""
    one, other = claim
    if not is_implied(readers, one, other):
        raise Broken(label)


def _check_many(value):
    if not is_integer(value) or value < 0:
        raise InvalidNumber(value)
