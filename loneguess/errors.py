"""The errors that the package raises."""


class ReaderError(ValueError):
    """Something that was passed is not what was asked for."""


class InvalidName(ReaderError):
    """A name was wanted."""


class InvalidLetters(ReaderError):
    """The letters of a reader were wanted."""


class InvalidText(ReaderError):
    """A text of certain letters was wanted."""


class InvalidReader(ReaderError):
    """A reader was wanted, or there is no such reader."""


class InvalidTally(ReaderError):
    """A tally was wanted, or there is no such tally."""


class InvalidFormula(ReaderError):
    """A formula was wanted, or there is no such formula."""


class InvalidOperation(ReaderError):
    """The call does not fit what it is made on."""


class ParseError(ReaderError):
    """A line of a text has not the form of its place; keeps its index."""

    def __init__(self, index):
        self.index = index


class InvalidNumber(IndexError):
    """A state, a number, a length or an index was wanted; keeps the value."""

    def __init__(self, value):
        self.value = value

    def __str__(self):
        return repr(self.value)


class UnknownName(KeyError):
    """There is nothing under this name; keeps the name."""

    def __init__(self, name):
        self.name = name

    def __str__(self):
        return repr(self.name)


class TooMany(OverflowError):
    """More than a limit allows; keeps the limit."""

    def __init__(self, limit):
        self.limit = limit


class NothingToUndo(LookupError):
    """Not so many calls can be undone or done again; keeps their number."""

    def __init__(self, many):
        self.many = many


class NotLone(ArithmeticError):
    """A reader is not lone; keeps the first text with two ways or more."""

    def __init__(self, text):
        self.text = text


class Broken(ArithmeticError):
    """A claim is not true; keeps its label."""

    def __init__(self, name):
        self.name = name
