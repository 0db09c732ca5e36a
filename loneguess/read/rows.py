"""Rows of numbers, one for each state, and the totals that they end in."""

from math import gcd

from loneguess.base.masks import states_of
from loneguess.base.names import check_letter, check_text, is_integer
from loneguess.errors import InvalidNumber, InvalidOperation
from loneguess.read.readers import check_reader

MAX_LENGTH = 400


def first_row(reader):
    """The row with 1 at the first states and 0 elsewhere."""
    check_reader(reader)
    return tuple([1 if state in reader.firsts else 0 for state in range(len(reader))])


def through(reader, row, letter):
    """The row put through a letter."""
    check_reader(reader)
    check_row(len(reader), row)
    check_letter(reader.letters, letter)
    return passed(plan_of(reader.backward(letter)), row)


def step(reader, row):
    """The sum of what the row becomes through all letters."""
    check_reader(reader)
    check_row(len(reader), row)
    return stepped(_plans(reader), row)


def end(reader, row):
    """The sum of the row's numbers at the last states."""
    check_reader(reader)
    check_row(len(reader), row)
    return weighed(_ends(reader), row)


def row_behind(reader, text):
    """The first row put through the letters of a text."""
    check_reader(reader)
    check_text(reader.letters, text)
    plans = {letter: plan_of(reader.backward(letter)) for letter in reader.letters}
    row = first_row(reader)
    for letter in text:
        row = passed(plans[letter], row)
    return row


def total(reader, size):
    """The number of the ways of all texts of a length."""
    check_reader(reader)
    check_length(size)
    return _totals_below(reader, size + 1)[-1]


def totals(reader, size):
    """The tuple of the totals of all lengths below this one."""
    check_reader(reader)
    check_length(size)
    return tuple(_totals_below(reader, size))


def recurrence(reader):
    """The shortest recurrence of the totals of all lengths."""
    check_reader(reader)
    # The totals of n states have a recurrence of n numbers; so what relates the first
    # 2 n of them, by n numbers or fewer, relates them for ever.
    relation = _shortest_relation(_totals_below(reader, 2 * len(reader)))
    # Its first number is 1 or -1: totals are integers, and so is their recurrence.
    return tuple([-number // relation[0] for number in relation[:0:-1]])


def check_length(value):
    """Raises InvalidNumber unless the value is a length."""
    if not is_integer(value) or not 0 <= value <= MAX_LENGTH:
        raise InvalidNumber(value)


def check_row(size, value):
    """Raises InvalidOperation unless the value is a row of so many integers."""
    if not is_row(size, value):
        raise InvalidOperation("a row is a tuple with one integer for each state")


def is_row(size, value):
    """Whether the value is a row of so many integers."""
    if not isinstance(value, tuple) or len(value) != size:
        return False
    return all([is_integer(number) for number in value])


def plan_of(sources):
    """The different ones of these sets of states, and for each set its index among them.

    A plan tells of a letter from which states arrows lead to each state. Numbers in rows
    grow long, so states to which the same states lead share one sum.
    """
    index = {}
    for mask in sources:
        index.setdefault(mask, len(index))
    groups = [states_of(mask) for mask in index]
    return groups, [index[mask] for mask in sources]


def passed(plan, row):
    """The row put through the letter of a plan."""
    groups, places = plan
    sums = [sum([row[state] for state in group]) for group in groups]
    return tuple([sums[place] for place in places])


def stepped(plans, row):
    """The sum of what the row becomes through the letters of some plans."""
    rows = [passed(plan, row) for plan in plans]
    return tuple([sum(numbers) for numbers in zip(*rows)])


def weighed(ends, row):
    """The sum of the row's numbers at last states, each times its weight: pairs (state, weight)."""
    return sum([weight * row[state] for state, weight in ends])


def dot(row, column):
    """The sum of the numbers of a row, each times what the column tells of its state."""
    return sum([number * factor for number, factor in zip(row, column)])


def weighed_below(plans, row, ends, size):
    """What the row comes to behind all numbers of steps below this one."""
    found = []
    for _ in range(size):
        found.append(weighed(ends, row))
        row = stepped(plans, row)
    return found


def _plans(reader):
    return [plan_of(reader.backward(letter)) for letter in reader.letters]


def _ends(reader):
    return [(state, 1) for state in reader.lasts]


def _totals_below(reader, size):
    return weighed_below(_plans(reader), first_row(reader), _ends(reader), size)


def _shortest_relation(numbers):
    """The shortest relation of a sequence, found as Berlekamp and Massey do.

    A relation of s + 1 numbers tells that, from index s on, the sum of relation[j]
    times the number that stands j places ahead is 0. When it is broken, the relation
    that was broken just before the relations last grew mends it, put `lag` places back.
    """
    relation = [1]
    old, old_gap, lag = [1], 1, 1
    for at in range(len(numbers)):
        gap = sum([factor * numbers[at - back] for back, factor in enumerate(relation)])
        if gap == 0:
            lag += 1
            continue
        mended = _difference(relation, old_gap, [0] * lag + old, gap)
        if len(mended) > len(relation):
            old, old_gap, lag = relation, gap, 1
        else:
            lag += 1
        relation = mended
    return relation


def _difference(one, factor, other, minus):
    """factor times one list less minus times another one, without a common divisor."""
    size = max(len(one), len(other))
    left = one + [0] * (size - len(one))
    right = other + [0] * (size - len(other))
    found = [factor * number - minus * less for number, less in zip(left, right)]
    common = 0
    for number in found:
        common = gcd(common, number)
    return [number // common for number in found]
