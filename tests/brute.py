"""What the document says, done by listing everything: slow, and written apart from the package."""

from fractions import Fraction
from itertools import product


def texts_up_to(letters, size):
    """All texts of at most so many letters, in their order."""
    return ["".join(parts) for many in range(size + 1) for parts in product(letters, repeat=many)]


def all_ways(reader, text):
    """The ways of a text, ascending."""
    begins = [(state,) for state in reader.firsts]
    for letter in text:
        begins = [(*way, other) for way in begins for state, sign, other in reader.arrows
                  if state == way[-1] and sign == letter]
    return sorted(way for way in begins if way[-1] in reader.lasts)


def row_after(reader, row, letter):
    """A row put through a letter."""
    found = [0] * len(row)
    for state, sign, other in reader.arrows:
        if sign == letter:
            found[other] += row[state]
    return tuple(found)


def all_totals(reader, size):
    """The totals of all lengths below this one."""
    row = [int(state in reader.firsts) for state in range(len(reader))]
    found = []
    for _ in range(size):
        found.append(sum(row[state] for state in reader.lasts))
        after = [0] * len(row)
        for state, _, other in reader.arrows:
            after[other] += row[state]
        row = after
    return found


def shortest_recurrence(numbers, most):
    """The shortest recurrence of a sequence, found by trying all sizes."""
    for size in range(most + 1):
        rows = [numbers[at:at + size + 1] for at in range(len(numbers) - size)]
        found = _solution([[Fraction(number) for number in row] for row in rows], size)
        if found is not None:
            return tuple(found)
    raise AssertionError("no recurrence")


def _solution(rows, size):
    """One solution of linear equations, or None; 0 for what can be chosen."""
    done = 0
    heads = []
    for column in range(size):
        pivot = next((at for at in range(done, len(rows)) if rows[at][column] != 0), None)
        if pivot is None:
            continue
        rows[done], rows[pivot] = rows[pivot], rows[done]
        head = rows[done][column]
        rows[done] = [number / head for number in rows[done]]
        for at, row in enumerate(rows):
            if at != done and row[column] != 0:
                rows[at] = [one - row[column] * two for one, two in zip(row, rows[done])]
        heads.append(column)
        done += 1
    if any(row[size] != 0 for row in rows[done:]):
        return None
    found = [Fraction(0)] * size
    for at, column in enumerate(heads):
        found[column] = rows[at][size]
    return found


def pairs_from(starts, arrows):
    """All pairs, smaller state first, to which equal letters lead from pairs of these states."""
    found = {(one, other) for one in starts for other in starts}
    fresh = list(found)
    while fresh:
        one, other = fresh.pop()
        for state, sign, to in arrows:
            for second, same, into in arrows:
                if state == one and second == other and sign == same and (to, into) not in found:
                    found.add((to, into))
                    fresh.append((to, into))
    return tuple(sorted(pair for pair in found if pair[0] <= pair[1]))
