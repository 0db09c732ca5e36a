"""Whether all totals of a tally are 0, and spaces of rows that show it.

Which rows are sums of multiples of others is asked modulo a prime first: rows that are
independent there are independent. That there are no more of them is believed only when
reduced rows, which have the same sums of multiples, are lifted from there to integers
and multiplied out. If this fails, a longer prime is taken.
"""

from math import isqrt

from loneguess.base.names import is_integer
from loneguess.count.tallies import check_tally, ends_of, last_column, plans_back, plans_of
from loneguess.errors import TooMany
from loneguess.read.rows import dot, is_row, passed, stepped, weighed

MAX_SPACE = 60

# For each of these sizes s, 2 to the power of s less 1 is a prime. The last one suffices
# always: at most 200 rows are reduced, of numbers that have less than 1700 bits, so the
# numbers in reduced rows have less than half as many bits as this prime.
_SIZES = (127, 521, 1279, 2203, 4423, 9689, 19937, 44497, 110503, 216091, 859433)


def is_hollow(tally):
    """Whether the totals are 0 for all lengths."""
    check_tally(tally)
    return not any(tally.totals(tally.width))


def hollow_paper(tally):
    """A paper that a tally is hollow, or that it is not."""
    check_tally(tally)
    check_paper_width(tally)
    sizes = [size for size, number in enumerate(tally.totals(tally.width)) if number != 0]
    if sizes:
        return ("length", sizes[0])
    return ("space", tuple(_step_rows(tally)))


def is_hollow_paper(tally, value):
    """Whether the value is such a paper of a tally."""
    check_tally(tally)
    if not isinstance(value, tuple) or len(value) != 2:
        return False
    if value[0] == "length":
        return is_integer(value[1]) and 0 <= value[1] < tally.width and tally.total(value[1]) != 0
    return is_space_paper(tally, value)


def depth(tally):
    """The number of rows of a space, or None if the tally is not hollow."""
    if not is_hollow(tally):
        return None
    return len(_step_rows(tally))


def first_text(tally):
    """The first text at which the value is not 0, or None, if the tally is fair."""
    check_tally(tally)
    plans = plans_back(tally)
    column = last_column(tally)
    columns = []
    for _ in range(tally.width):
        if dot(tally.first, column) != 0:
            return _least_text(tally, columns)
        columns.append(column)
        column = stepped(plans, column)
    return None


def fair_paper(tally):
    """A paper of a fair tally: a space, or the first text at which the value is not 0."""
    check_paper_width(tally)
    text = first_text(tally)
    if text is None:
        return ("space", tuple(_step_rows(tally)))
    return ("text", text)


def is_space_paper(tally, value):
    """Whether the value is a paper that shows a space for a tally."""
    if not isinstance(value, tuple) or len(value) != 2 or value[0] != "space":
        return False
    return is_space(tally, value[1], [plans_of(tally)])


def check_paper_width(tally):
    """Raises TooMany if a tally is too wide for a paper."""
    if tally.width > MAX_SPACE:
        raise TooMany(MAX_SPACE)


def independent_rows(tally, moves):
    """Rows of a tally that are no sums of multiples of others, with the moves that lead to them.

    They are met one after another from the first row on; a move is a list of plans, whose
    letters are taken together. If the end of a row is not 0, it is the last one. If all
    ends are 0, what each move makes of a row is a sum of multiples of the rows.
    """
    ends = ends_of(tally)
    for size in _SIZES:
        prime = (1 << size) - 1
        found, basis = _grown(tally.first, moves, ends, prime)
        if found and weighed(ends, found[-1][0]) != 0:
            return found
        scale, lifted = _lifted(basis, prime)
        if _are_sums(scale, lifted, [tally.first, *_moved([row for _, row in lifted], moves)]):
            return found


def is_space(tally, value, moves):
    """Whether the value is the rows of a space that none of these moves leads out of."""
    if not isinstance(value, tuple) or len(value) > tally.width:
        return False
    if not all([is_row(tally.width, row) for row in value]):
        return False
    ends = ends_of(tally)
    if any([weighed(ends, row) for row in value]):
        return False
    wanted = [tally.first, *_moved(value, moves)]
    for size in _SIZES:
        prime = (1 << size) - 1
        rows, others, basis = _sorted_out(value, prime)
        if not others and not _are_sums_modulo(basis, wanted, prime):
            return False
        if _is_shown(rows, others[:1] or wanted, basis, prime):
            return not others


def _step_rows(tally):
    return [row for row, _ in independent_rows(tally, [plans_of(tally)])]


def _least_text(tally, columns):
    """The first text as long as there are columns at which the value is not 0; the tally is fair.

    The column of a size tells for each state what one way there is worth behind all texts
    of this size. In a fair tally these sums are 0 only if there is nothing to be summed;
    and what they come to without a letter is what they come to with one, all letters taken
    together, so one of the letters is found.
    """
    plans = plans_of(tally)
    row = tally.first
    text = ""
    for column in columns[::-1]:
        at = 0
        while dot(passed(plans[at], row), column) == 0:
            at += 1
        text = text + tally.letters[at]
        row = passed(plans[at], row)
    return text


def _moved(rows, moves):
    return [stepped(plans, row) for row in rows for plans in moves]


def _grown(first, moves, ends, prime):
    """The independent rows as a prime tells them, up to the first end that is not 0, and their basis."""
    found, basis = [], []
    waiting = [(first, ())]
    at = 0
    while at < len(waiting):
        row, way = waiting[at]
        at += 1
        rest = _rest_modulo(basis, row, prime)
        if not any(rest):
            continue
        found.append((row, way))
        if weighed(ends, row) != 0:
            break
        basis = _with_row(basis, rest, prime)
        waiting.extend([(stepped(plans, row), (*way, index)) for index, plans in enumerate(moves)])
    return found, basis


def _sorted_out(rows, prime):
    """The rows that are independent modulo a prime, the others, and the basis of the former.

    The basis is pairs of an index and a row. It is reduced: at its index, a row has the
    number 1, and all other rows have 0.
    """
    found, others, basis = [], [], []
    for row in rows:
        rest = _rest_modulo(basis, row, prime)
        if any(rest):
            found.append(row)
            basis = _with_row(basis, rest, prime)
        else:
            others.append(row)
    return found, others, basis


def _is_shown(rows, wanted, basis, prime):
    """Whether the wanted rows turn out to be sums of multiples of independent ones.

    There are two ways to see it by short numbers. Long rows can be simple ones, mixed by
    long factors: their basis is simple. Or the factors are short that lead to wanted rows.
    """
    scale, lifted = _lifted(basis, prime)
    if _are_sums(scale, lifted, [*rows, *wanted]):
        return True
    blank = [0] * len(rows)
    units = [[*blank[:at], 1, *blank[at + 1:]] for at in range(len(rows))]
    _, _, wide = _sorted_out([[*row, *unit] for row, unit in zip(rows, units)], prime)
    for row in wanted:
        # What is left of a row is nothing but what was taken of each independent one.
        factors = _rest_modulo(wide, [*row, *blank], prime)[len(row):]
        if not _is_balanced(row, rows, factors, prime):
            return False
    return True


def _is_balanced(row, rows, factors, prime):
    """Whether the row and others, times factors that are told modulo a prime, add up to zeros."""
    scale, lifted = _lifted([(0, factors)], prime)
    rest = [scale * number for number in row]
    for factor, other in zip(lifted[0][1], rows):
        rest = _less(rest, -factor, other)
    return not any(rest)


def _with_row(basis, rest, prime):
    """A basis modulo a prime with one row more, which has 0 at all its indices."""
    pivot = [at for at, number in enumerate(rest) if number][0]
    _, factor = _euclid(rest[pivot], prime, 1)
    row = [number * factor % prime for number in rest]
    return [(at, _modulo(_less(base, base[pivot], row), prime)) for at, base in basis] + [(pivot, row)]


def _modulo(row, prime):
    return [number % prime for number in row]


def _less(row, factor, base):
    """The row less so many times another one."""
    if factor == 0:
        return row
    return [number - factor * other for number, other in zip(row, base)]


def _rest(scale, basis, row):
    """What is left of scale times a row when its numbers at the indices of a basis are taken away.

    The rows of the basis have the scale at their indices. If nothing is left, the row is
    a sum of multiples of them.
    """
    rest = [scale * number for number in row]
    for at, base in basis:
        rest = _less(rest, row[at], base)
    return rest


def _rest_modulo(basis, row, prime):
    return _modulo(_rest(1, basis, _modulo(row, prime)), prime)


def _are_sums(scale, basis, rows):
    """Whether all rows are sums of multiples of those of a basis."""
    for row in rows:
        if any(_rest(scale, basis, row)):
            return False
    return True


def _are_sums_modulo(basis, rows, prime):
    for row in rows:
        if any(_rest_modulo(basis, row, prime)):
            return False
    return True


def _lifted(basis, prime):
    """A scale, and a basis modulo a prime times this scale, as integers that are as small as can be.

    Numbers that come from fractions with small parts become integers by the scale. If the
    parts are too great for the prime, other integers come out, which the caller notices.
    """
    limit = isqrt(prime // 2)
    scale = 1
    for _, row in basis:
        for number in row:
            if scale <= limit:
                _, factor = _euclid(scale * number % prime, prime, limit)
                scale = scale * abs(factor)
    lifted = [(at, [_nearest(scale * number, prime) for number in row]) for at, row in basis]
    return scale, lifted


def _nearest(number, prime):
    """The number next to 0 that is the same modulo a prime."""
    return (number + prime // 2) % prime - prime // 2


def _euclid(number, prime, limit):
    """The first remainder in Euclid's row that is not above a limit, and what to multiply by to get it."""
    before, rest = prime, number
    other, factor = 0, 1
    while rest > limit:
        ratio = before // rest
        before, rest = rest, before - ratio * rest
        other, factor = factor, other - ratio * factor
    return rest, factor
