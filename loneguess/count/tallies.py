"""Tallies: readers with numbers, whose rows and totals are taken together."""

from loneguess.base.names import check_letter, is_integer
from loneguess.errors import InvalidNumber, InvalidOperation, InvalidTally, TooMany
from loneguess.read.made import both
from loneguess.read.readers import MAX_STATES, Reader
from loneguess.read.rows import check_length, check_row, first_row, passed, plan_of, stepped, weighed, weighed_below
from loneguess.read.ways import count_ways

MAX_WIDTH = 200


class Tally:
    """Parts, pairs (number, reader), whose readers have the same letters; it never changes."""

    def __init__(self, parts):
        if not _are_parts(parts):
            raise InvalidTally("a tally has one or more pairs of an integer and a reader, with the same letters")
        width = sum([len(reader) for _, reader in parts])
        if width > MAX_WIDTH:
            raise TooMany(MAX_WIDTH)
        self._parts = parts
        self._width = width
        self._first = tuple([number for _, reader in parts for number in first_row(reader)])

    @property
    def parts(self):
        """The tuple of the pairs of a number and a reader."""
        return self._parts

    @property
    def letters(self):
        """The letters of the readers."""
        return self._parts[0][1].letters

    @property
    def width(self):
        """The sum of the numbers of states."""
        return self._width

    @property
    def first(self):
        """The first row."""
        return self._first

    def worth(self, text):
        """The value at a text."""
        return sum([number * count_ways(reader, text) for number, reader in self._parts])

    def through(self, row, letter):
        """A row put through a letter."""
        check_row(self._width, row)
        check_letter(self.letters, letter)
        return passed(plan_of(_sources(self, letter)), row)

    def step(self, row):
        """The sum of what a row becomes through all letters."""
        check_row(self._width, row)
        return stepped(plans_of(self), row)

    def end(self, row):
        """The sum of the ends of the pieces of a row, each times the number of its part."""
        check_row(self._width, row)
        return weighed(ends_of(self), row)

    def total(self, size):
        """The total of a length."""
        check_length(size)
        return _totals_below(self, size + 1)[-1]

    def totals(self, size):
        """The tuple of the totals of all lengths below this one."""
        check_length(size)
        return tuple(_totals_below(self, size))

    def __add__(self, other):
        _check_operand(self, other)
        return Tally(self._parts + other._parts)

    def __neg__(self):
        return Tally(_negated(self._parts))

    def __sub__(self, other):
        _check_operand(self, other)
        return Tally(self._parts + _negated(other._parts))

    def __getitem__(self, at):
        if not is_integer(at) or not 0 <= at < len(self._parts):
            raise InvalidNumber(at)
        return self._parts[at]

    def __iter__(self):
        raise TypeError("a tally is not iterated over")

    def __len__(self):
        return len(self._parts)

    def __eq__(self, other):
        return isinstance(other, Tally) and self._parts == other._parts

    def __str__(self):
        return f"tally of {len(self._parts)} parts, width {self._width}"


def product(one, other):
    """The tally whose value is the product of both values."""
    check_tally(one)
    check_tally(other)
    if one.letters != other.letters:
        raise InvalidOperation("tallies with the same letters are wanted")
    if not all([is_integer(number * times) for number, _ in one.parts for times, _ in other.parts]):
        raise InvalidTally("a number has more than two hundred digits")
    # Limits come before readers, so that no reader is made in vain.
    if max([len(reader) for _, reader in one.parts]) * max([len(reader) for _, reader in other.parts]) > MAX_STATES:
        raise TooMany(MAX_STATES)
    if one.width * other.width > MAX_WIDTH:
        raise TooMany(MAX_WIDTH)
    return Tally(tuple([(number * times, both(reader, second))
                        for number, reader in one.parts for times, second in other.parts]))


def check_tally(value):
    """Raises InvalidTally unless the value is a tally."""
    if not isinstance(value, Tally):
        raise InvalidTally("a tally is wanted")


def plans_of(tally):
    """For each letter the plan by which rows of a tally are put through it."""
    return [plan_of(_sources(tally, letter)) for letter in tally.letters]


def plans_back(tally):
    """For each letter the plan by which what is told of states is told of those ahead of them."""
    return [plan_of(_targets(tally, letter)) for letter in tally.letters]


def ends_of(tally):
    """The pairs (state, number) of the last states, as they stand in rows, and the numbers of their parts."""
    found = []
    offset = 0
    for number, reader in tally.parts:
        found.extend([(offset + state, number) for state in reader.lasts])
        offset += len(reader)
    return found


def last_column(tally):
    """What one way in each state is worth behind the empty text: the number of the part at last states."""
    ends = dict(ends_of(tally))
    return tuple([ends.get(state, 0) for state in range(tally.width)])


def _are_parts(value):
    if not isinstance(value, tuple) or not value or not all([_is_part(part) for part in value]):
        return False
    return all([reader.letters == value[0][1].letters for _, reader in value])


def _is_part(value):
    return isinstance(value, tuple) and len(value) == 2 and is_integer(value[0]) and isinstance(value[1], Reader)


def _check_operand(tally, other):
    if not isinstance(other, Tally) or other.letters != tally.letters:
        raise InvalidOperation("a tally with the same letters is wanted")


def _negated(parts):
    return tuple([(-number, reader) for number, reader in parts])


def _sources(tally, letter):
    """The masks of the states from which a letter leads to each state."""
    return _laid([reader.backward(letter) for _, reader in tally.parts])


def _targets(tally, letter):
    """The masks of the states to which a letter leads from each state."""
    return _laid([reader.onward(letter) for _, reader in tally.parts])


def _laid(tables):
    """The masks of several readers, put end to end as their states are in rows."""
    found = []
    for table in tables:
        offset = len(found)
        found.extend([mask << offset for mask in table])
    return found


def _totals_below(tally, size):
    return weighed_below(plans_of(tally), tally.first, ends_of(tally), size)
