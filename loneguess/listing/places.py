"""Texts by numbers: found by totals, prefix by prefix, without listing those ahead of them.

The texts that are counted are those at which the value of a tally is 1; elsewhere it
is 0. A column tells for each state what one way there is worth behind all texts of a
length; so a row times a column tells how many texts begin with what led to the row.
"""

from loneguess.base.names import check_text, is_integer
from loneguess.count.tallies import Tally, last_column, plans_back, plans_of
from loneguess.count.within import ends_early
from loneguess.errors import InvalidNumber, InvalidOperation, TooMany
from loneguess.formula.shelves import check_formula_on, is_true_at, tally_of
from loneguess.read.lone import check_lone
from loneguess.read.made import trimmed
from loneguess.read.readers import check_reader
from loneguess.read.rows import check_length, dot, passed, stepped

MAX_TEXT = 400


def texts_of(reader, size):
    """Yields the texts of a length that a lone reader reads, ascending."""
    check_reader(reader)
    check_length(size)
    check_lone(reader)
    tally = _tally_of_one(reader)
    yield from _texts_in(tally, size)


def nth(reader, index):
    """The text of a lone reader with an index, or None if there are not so many."""
    check_reader(reader)
    _check_index(index)
    check_lone(reader)
    return _text_at(_tally_of_one(reader), index)


def place(reader, text):
    """The index of a text of a lone reader."""
    check_reader(reader)
    check_text(reader.letters, text)
    check_lone(reader)
    if text not in reader:
        raise InvalidOperation("the reader does not read this text")
    return _index_of(_tally_of_one(reader), text)


def true_texts(shelf, formula, size):
    """Yields the texts of a length at which a formula is true, ascending."""
    check_formula_on(shelf, formula)
    check_length(size)
    tally = _trimmed_tally(tally_of(shelf, formula))
    yield from _texts_in(tally, size)


def nth_true(shelf, formula, index):
    """The text at which a formula is true with an index, or None if there are not so many."""
    check_formula_on(shelf, formula)
    _check_index(index)
    return _text_at(_trimmed_tally(tally_of(shelf, formula)), index)


def true_place(shelf, formula, text):
    """The index of a text at which a formula is true."""
    check_formula_on(shelf, formula)
    check_text(shelf.letters, text)
    tally = _trimmed_tally(tally_of(shelf, formula))
    if not is_true_at(shelf, formula, text):
        raise InvalidOperation("the formula is not true at this text")
    return _index_of(tally, text)


def _check_index(value):
    if not is_integer(value) or value < 0:
        raise InvalidNumber(value)


def _tally_of_one(reader):
    return Tally(((1, trimmed(reader)),))


def _trimmed_tally(tally):
    """The tally without useless states: the numbers in its rows are 0 and 1, for its readers are lone."""
    return Tally(tuple([(number, trimmed(reader)) for number, reader in tally.parts]))


def _texts_in(tally, size):
    """Yields the texts of a length, ascending."""
    plans = plans_of(tally)
    columns = _columns_up_to(tally, size)
    begun = [("", tally.first)]
    while begun:
        text, row = begun.pop()
        if dot(row, columns[size - len(text)]) == 0:
            continue
        if len(text) == size:
            yield text
        else:
            longer = [(text + letter, passed(plan, row)) for letter, plan in zip(tally.letters, plans)]
            begun.extend(longer[::-1])


def _columns_up_to(tally, size):
    """The columns of all lengths up to this one."""
    plans = plans_back(tally)
    found = [last_column(tally)]
    for _ in range(size):
        found.append(stepped(plans, found[-1]))
    return found


def _text_at(tally, index):
    """The text with an index, or None."""
    plans = plans_back(tally)
    columns = [last_column(tally)]
    left = index
    while left >= dot(tally.first, columns[-1]):
        if len(columns) > MAX_TEXT:
            # All texts are shorter than the tally is wide if there are finitely many of them.
            if ends_early(tally):
                return None
            raise TooMany(MAX_TEXT)
        left -= dot(tally.first, columns[-1])
        columns.append(stepped(plans, columns[-1]))
    return _text_among(tally, columns[:-1], left)


def _text_among(tally, columns, left):
    """The text with an index among those that have as many letters as there are columns."""
    plans = plans_of(tally)
    row = tally.first
    text = ""
    for column in columns[::-1]:
        at = 0
        longer = passed(plans[0], row)
        while left >= dot(longer, column):
            left -= dot(longer, column)
            at += 1
            longer = passed(plans[at], row)
        text = text + tally.letters[at]
        row = longer
    return text


def _index_of(tally, text):
    """The number of the texts ahead of a text."""
    plans = plans_of(tally)
    row = tally.first
    smaller = []
    for letter in text:
        at = tally.letters.find(letter)
        smaller.append([passed(plan, row) for plan in plans[:at]])
        row = passed(plans[at], row)
    # From the end on, so that of all columns, which are long, only one is kept.
    plans = plans_back(tally)
    column = last_column(tally)
    found = 0
    for rows in smaller[::-1]:
        found += sum([dot(less, column) for less in [tally.first, *rows]])
        column = stepped(plans, column)
    return found
