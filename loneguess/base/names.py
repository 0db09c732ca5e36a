"""What integers, names, letters and texts are."""

from loneguess.errors import InvalidLetters, InvalidText

MAX_LETTERS = 8
MAX_DIGITS = 200

_MAX_ALPHABET = 4


def is_integer(value):
    """Whether the value is an integer with at most two hundred digits."""
    if not isinstance(value, int) or isinstance(value, bool):
        return False
    # Python refuses to write out very long numbers, so their bits are counted first:
    # a number with more than four bits for each digit has too many digits anyway.
    return value.bit_length() <= 4 * MAX_DIGITS and len(str(abs(value))) <= MAX_DIGITS


def is_name(value):
    """Whether the value is a name."""
    return isinstance(value, str) and 1 <= len(value) <= MAX_LETTERS and is_plain(value)


def is_letters(value):
    """Whether the value is the letters that a reader can have."""
    if not isinstance(value, str) or not 1 <= len(value) <= _MAX_ALPHABET:
        return False
    return is_plain(value) and is_ascending(value)


def is_text(letters, value):
    """Whether the value is a text of these letters."""
    check_letters(letters)
    return isinstance(value, str) and all([letter in letters for letter in value])


def is_letter(letters, value):
    """Whether the value is a single one of these letters."""
    return isinstance(value, str) and len(value) == 1 and value in letters


def is_ascending(values):
    """Whether a string or a tuple, whose members can be compared, is strictly ascending."""
    return all([one < other for one, other in zip(values, values[1:])])


def is_plain(text):
    """Whether a string has only letters a to z, or none at all."""
    return all(["a" <= letter <= "z" for letter in text])


def check_letters(value):
    """Raises InvalidLetters unless the value is letters."""
    if not is_letters(value):
        raise InvalidLetters("letters are one to four different letters a to z, ascending")


def check_text(letters, value):
    """Raises InvalidText unless the value is a text of these letters."""
    if not is_text(letters, value):
        raise InvalidText("a text has only the letters " + letters)


def check_letter(letters, value):
    """Raises InvalidText unless the value is a single one of these letters."""
    if not is_letter(letters, value):
        raise InvalidText("a single letter is wanted, one of " + letters)
