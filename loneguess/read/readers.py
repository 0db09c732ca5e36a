"""Readers."""

from loneguess.base.masks import image, mask_of, states_of, table_of
from loneguess.base.names import check_letter, check_letters, check_text
from loneguess.base.names import is_ascending, is_integer, is_letter, is_text
from loneguess.errors import InvalidNumber, InvalidOperation, InvalidReader, TooMany

MAX_STATES = 60


class Reader:
    """Letters, states, first and last states, and arrows; it never changes."""

    def __init__(self, letters, size, firsts, lasts, arrows):
        check_letters(letters)
        if not is_integer(size) or not 1 <= size <= MAX_STATES:
            raise InvalidNumber(size)
        if not is_state_set(size, firsts) or not is_state_set(size, lasts):
            raise InvalidReader("first and last states are sets of states")
        if not _is_arrow_set(letters, size, arrows):
            raise InvalidReader("arrows are a set of triples (state, letter, state)")
        self._letters = letters
        self._states = tuple(range(size))
        self._firsts = firsts
        self._lasts = lasts
        self._arrows = arrows
        self._onward = table_of(letters, size, arrows)
        turned = [(other, letter, state) for state, letter, other in arrows]
        self._backward = table_of(letters, size, turned)

    @classmethod
    def of_texts(cls, letters, texts):
        """A lone reader with just these texts."""
        check_letters(letters)
        if not isinstance(texts, tuple):
            raise InvalidOperation("texts are told as a tuple")
        for text in texts:
            check_text(letters, text)
        begins = _beginnings(texts)
        place = {begin: state for state, begin in enumerate(begins)}
        known = {text: True for text in texts}
        lasts = tuple([state for state, begin in enumerate(begins) if begin in known])
        arrows = [(place[begin[:-1]], begin[-1], place[begin]) for begin in begins if begin]
        return cls(letters, len(begins), (0,), lasts, tuple(sorted(arrows)))

    @property
    def letters(self):
        """The letters."""
        return self._letters

    @property
    def firsts(self):
        """The set of the first states."""
        return self._firsts

    @property
    def lasts(self):
        """The set of the last states."""
        return self._lasts

    @property
    def arrows(self):
        """The set of the arrows."""
        return self._arrows

    def onward(self, letter):
        """The masks of the states to which arrows with a letter lead, by state."""
        return self._onward[letter]

    def backward(self, letter):
        """The masks of the states from which arrows with a letter lead, by state."""
        return self._backward[letter]

    def with_arrow(self, state, letter, other):
        """This reader with one arrow more."""
        self._check_arrow(state, letter, other)
        if (state, letter, other) in self._arrows:
            raise InvalidOperation("this arrow is there")
        return self._with_arrows([*self._arrows, (state, letter, other)])

    def without_arrow(self, state, letter, other):
        """This reader with one arrow less."""
        self._check_arrow(state, letter, other)
        if (state, letter, other) not in self._arrows:
            raise InvalidOperation("this arrow is not there")
        return self._with_arrows([arrow for arrow in self._arrows if arrow != (state, letter, other)])

    def with_ends(self, *, firsts=None, lasts=None):
        """This reader with other first and last states, None for the same."""
        size = len(self._states)
        for ends in (firsts, lasts):
            if ends is not None and not is_state_set(size, ends):
                raise InvalidOperation("first and last states are sets of states")
        new_firsts = self._firsts if firsts is None else firsts
        new_lasts = self._lasts if lasts is None else lasts
        return Reader(self._letters, size, new_firsts, new_lasts, self._arrows)

    def over(self, letters):
        """This reader over more letters."""
        check_letters(letters)
        if not all([letter in letters for letter in self._letters]):
            raise InvalidOperation("a letter of the reader is lacking")
        return Reader(letters, len(self._states), self._firsts, self._lasts, self._arrows)

    def _check_arrow(self, state, letter, other):
        check_state(len(self._states), state)
        check_letter(self._letters, letter)
        check_state(len(self._states), other)

    def _with_arrows(self, arrows):
        return Reader(self._letters, len(self._states), self._firsts, self._lasts, tuple(sorted(arrows)))

    def __contains__(self, x):
        if not is_text(self._letters, x):
            return False
        mask = mask_of(self._firsts)
        for letter in x:
            mask = image(self._onward[letter], mask)
        return mask & mask_of(self._lasts) != 0

    def __getitem__(self, at):
        if not isinstance(at, tuple) or len(at) != 2:
            raise InvalidOperation("a pair of a state and a letter is wanted")
        state, letter = at
        check_state(len(self._states), state)
        check_letter(self._letters, letter)
        return states_of(self._onward[letter][state])

    def __iter__(self):
        raise TypeError("a reader is not iterated over")

    def __len__(self):
        return len(self._states)

    def __eq__(self, other):
        return (isinstance(other, Reader) and self._letters == other._letters
                and self._states == other._states and self._firsts == other._firsts
                and self._lasts == other._lasts and self._arrows == other._arrows)

    def __str__(self):
        return f"reader of {len(self._states)} states, {len(self._arrows)} arrows"


def reader_of_all(letters):
    """The reader with one state that reads all texts of these letters."""
    return Reader(letters, 1, (0,), (0,), tuple([(0, letter, 0) for letter in letters]))


def check_reader(value):
    """Raises InvalidReader unless the value is a reader."""
    if not isinstance(value, Reader):
        raise InvalidReader("a reader is wanted")


def check_state(size, value):
    """Raises InvalidNumber unless the value is one of so many states."""
    if not is_state(size, value):
        raise InvalidNumber(value)


def is_state(size, value):
    """Whether the value is one of so many states."""
    return is_integer(value) and 0 <= value < size


def is_state_set(size, value):
    """Whether the value is a set of some of so many states."""
    if not isinstance(value, tuple) or not all([is_state(size, state) for state in value]):
        return False
    return is_ascending(value)


def _is_arrow_set(letters, size, value):
    if not isinstance(value, tuple):
        return False
    return all([_is_arrow(letters, size, arrow) for arrow in value]) and is_ascending(value)


def _is_arrow(letters, size, value):
    if not isinstance(value, tuple) or len(value) != 3:
        return False
    return is_state(size, value[0]) and is_letter(letters, value[1]) and is_state(size, value[2])


def _beginnings(texts):
    """All beginnings of texts, the empty one among them, in the order of texts."""
    found = {"": True}
    for text in texts:
        for size in range(1, len(text) + 1):
            found[text[:size]] = True
            if len(found) > MAX_STATES:
                raise TooMany(MAX_STATES)
    return sorted(list(found), key=lambda begin: (len(begin), begin))
