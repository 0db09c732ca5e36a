"""Rows of numbers, one for each state, and the totals that they end in."""

from math import gcd

from loneguess.base.masks import states_of
from loneguess.base.names import check_letter, check_text, is_integer
from loneguess.errors import InvalidNumber, InvalidOperation
from loneguess.read.readers import check_reader

MAX_LENGTH = 400


def first_row(reader):
    """The row with 1 at the first states and 0 elsewhere."""
    check_reader(reader)
    return tuple([1 if state in reader.firsts else 0 for state in range(len(reader))])


def through(reader, row, letter):
    """The row put through a letter."""
    check_reader(reader)
    check_row(len(reader), row)
    check_letter(reader.letters, letter)
    return _passed(_plan(reader, letter), row)


def step(reader, row):
    """The sum of what the row becomes through all letters."""
    check_reader(reader)
    check_row(len(reader), row)
    return _stepped(_plans(reader), row)


def end(reader, row):
    """The sum of the row's numbers at the last states."""
    check_reader(reader)
    check_row(len(reader), row)
    return _end_sum(reader, row)


def row_behind(reader, text):
    """The first row put through the letters of a text."""
    check_reader(reader)
    check_text(reader.letters, text)
    plans = {letter: _plan(reader, letter) for letter in reader.letters}
    row = first_row(reader)
    for letter in text:
        row = _passed(plans[letter], row)
    return row


def total(reader, size):
    """The number of the ways of all texts of a length."""
    check_reader(reader)
    check_length(size)
    return _totals_below(reader, size + 1)[-1]


def totals(reader, size):
    """The tuple of the totals of all lengths below this one."""
    check_reader(reader)
    check_length(size)
    return tuple(_totals_below(reader, size))


def recurrence(reader):
    """The shortest recurrence of the totals of all lengths."""
    check_reader(reader)
    # The totals of n states have a recurrence of n numbers; so what relates the first
    # 2 n of them, by n numbers or fewer, relates them for ever.
    relation = _shortest_relation(_totals_below(reader, 2 * len(reader)))
    # Its first number is 1 or -1: totals are integers, and so is their recurrence.
    return tuple([-number // relation[0] for number in relation[:0:-1]])


def check_length(value):
    """Raises InvalidNumber unless the value is a length."""
    if not is_integer(value) or not 0 <= value <= MAX_LENGTH:
        raise InvalidNumber(value)


def check_row(size, value):
    """Raises InvalidOperation unless the value is a row of so many integers."""
    if not isinstance(value, tuple) or len(value) != size:
        raise InvalidOperation("a row is a tuple with one integer for each state")
    if not all([is_integer(number) for number in value]):
        raise InvalidOperation("a row has only integers of at most two hundred digits")


def _plan(reader, letter):
    """The different sets of states from which a letter leads, and for each state its set's index.

    Numbers in rows grow long, so states to which the same states lead share one sum.
    """
    index = {}
    for mask in reader.backward(letter):
        index.setdefault(mask, len(index))
    groups = [states_of(mask) for mask in index]
    return groups, [index[mask] for mask in reader.backward(letter)]


def _plans(reader):
    return [_plan(reader, letter) for letter in reader.letters]


def _passed(plan, row):
    groups, places = plan
    sums = [sum([row[state] for state in group]) for group in groups]
    return tuple([sums[place] for place in places])


def _stepped(plans, row):
    rows = [_passed(plan, row) for plan in plans]
    return tuple([sum(numbers) for numbers in zip(*rows)])


def _end_sum(reader, row):
    return sum([row[state] for state in reader.lasts])


def _totals_below(reader, size):
    plans = _plans(reader)
    row = first_row(reader)
    found = []
    for _ in range(size):
        found.append(_end_sum(reader, row))
        row = _stepped(plans, row)
    return found


def _shortest_relation(numbers):
    """The shortest relation of a sequence, found as Berlekamp and Massey do.

    A relation of s + 1 numbers tells that, from index s on, the sum of relation[j]
    times the number that stands j places ahead is 0. When it is broken, the relation
    that was broken just before the relations last grew mends it, put `lag` places back.
    """
    relation = [1]
    old, old_gap, lag = [1], 1, 1
    for at in range(len(numbers)):
        gap = sum([factor * numbers[at - back] for back, factor in enumerate(relation)])
        if gap == 0:
            lag += 1
            continue
        mended = _difference(relation, old_gap, [0] * lag + old, gap)
        if len(mended) > len(relation):
            old, old_gap, lag = relation, gap, 1
        else:
            lag += 1
        relation = mended
    return relation


def _difference(one, factor, other, minus):
    """factor times one list less minus times another one, without a common divisor."""
    size = max(len(one), len(other))
    left = one + [0] * (size - len(one))
    right = other + [0] * (size - len(other))
    found = [factor * number - minus * less for number, less in zip(left, right)]
    common = 0
    for number in found:
        common = gcd(common, number)
    return [number // common for number in found]
