"""What the document says, done by listing everything: slow, and written apart from the package."""

from fractions import Fraction
from itertools import product
from math import lcm


def texts_up_to(letters, size):
    """All texts of at most so many letters, in their order."""
    return ["".join(parts) for many in range(size + 1) for parts in product(letters, repeat=many)]


def all_ways(reader, text):
    """The ways of a text, ascending."""
    begins = [(state,) for state in reader.firsts]
    for letter in text:
        begins = [(*way, other) for way in begins for state, sign, other in reader.arrows
                  if state == way[-1] and sign == letter]
    return sorted(way for way in begins if way[-1] in reader.lasts)


def row_after(reader, row, letter):
    """A row put through a letter."""
    found = [0] * len(row)
    for state, sign, other in reader.arrows:
        if sign == letter:
            found[other] += row[state]
    return tuple(found)


def all_totals(reader, size):
    """The totals of all lengths below this one."""
    row = [int(state in reader.firsts) for state in range(len(reader))]
    found = []
    for _ in range(size):
        found.append(sum(row[state] for state in reader.lasts))
        after = [0] * len(row)
        for state, _, other in reader.arrows:
            after[other] += row[state]
        row = after
    return found


def shortest_recurrence(numbers, most):
    """The shortest recurrence of a sequence, found by trying all sizes."""
    for size in range(most + 1):
        rows = [numbers[at:at + size + 1] for at in range(len(numbers) - size)]
        found = _solution([[Fraction(number) for number in row] for row in rows], size)
        if found is not None:
            return tuple(found)
    raise AssertionError("no recurrence")


def _solution(rows, size):
    """One solution of linear equations, or None; 0 for what can be chosen."""
    done = 0
    heads = []
    for column in range(size):
        pivot = next((at for at in range(done, len(rows)) if rows[at][column] != 0), None)
        if pivot is None:
            continue
        rows[done], rows[pivot] = rows[pivot], rows[done]
        head = rows[done][column]
        rows[done] = [number / head for number in rows[done]]
        for at, row in enumerate(rows):
            if at != done and row[column] != 0:
                rows[at] = [one - row[column] * two for one, two in zip(row, rows[done])]
        heads.append(column)
        done += 1
    if any(row[size] != 0 for row in rows[done:]):
        return None
    found = [Fraction(0)] * size
    for at, column in enumerate(heads):
        found[column] = rows[at][size]
    return found


def pairs_from(starts, arrows):
    """All pairs, smaller state first, to which equal letters lead from pairs of these states."""
    found = {(one, other) for one in starts for other in starts}
    fresh = list(found)
    while fresh:
        one, other = fresh.pop()
        for state, sign, to in arrows:
            for second, same, into in arrows:
                if state == one and second == other and sign == same and (to, into) not in found:
                    found.add((to, into))
                    fresh.append((to, into))
    return tuple(sorted(pair for pair in found if pair[0] <= pair[1]))


def worth(parts, text):
    """The value of a tally with these parts at a text."""
    return sum(number * len(all_ways(reader, text)) for number, reader in parts)


def pieces(parts, row):
    """The pieces of a row of a tally, with their parts."""
    found, at = [], 0
    for number, reader in parts:
        found.append((number, reader, row[at:at + len(reader)]))
        at += len(reader)
    return found


def parts_row_after(parts, row, letter):
    """A row of a tally put through a letter."""
    return tuple(number for _, reader, piece in pieces(parts, row) for number in row_after(reader, piece, letter))


def parts_step(parts, row):
    """The step of a row of a tally."""
    rows = [parts_row_after(parts, row, letter) for letter in parts[0][1].letters]
    return tuple(map(sum, zip(*rows)))


def parts_end(parts, row):
    """The end of a row of a tally."""
    return sum(number * piece[state] for number, reader, piece in pieces(parts, row) for state in reader.lasts)


def parts_totals(parts, size):
    """The totals of a tally for all lengths below this one."""
    columns = [[number * total for total in all_totals(reader, size)] for number, reader in parts]
    return tuple(map(sum, zip(*columns)))


def rank(rows):
    """How many of these rows are independent, with fractions."""
    left = [[Fraction(number) for number in row] for row in rows]
    found = 0
    for column in range(len(rows[0]) if rows else 0):
        pivot = next((row for row in left if row[column] != 0), None)
        if pivot is None:
            continue
        found += 1
        left.remove(pivot)
        left = [[one - row[column] / pivot[column] * two for one, two in zip(row, pivot)] for row in left]
    return found


def is_some_space(parts, rows, letter_wise=False):
    """Whether these rows are a space of a tally, or a wide one."""
    first = tuple(int(state in reader.firsts) for _, reader in parts for state in range(len(reader)))
    many = rank(rows)
    if many < len(rows) or any(parts_end(parts, row) != 0 for row in rows):
        return False
    if letter_wise:
        moved = [parts_row_after(parts, row, letter) for row in rows for letter in parts[0][1].letters]
    else:
        moved = [parts_step(parts, row) for row in rows]
    return not any(first) if not rows else all(rank([*rows, row]) == many for row in [first, *moved])


def greatest_space(parts, letter_wise=False):
    """Rows that span all rows which have the end 0 behind whatever steps, or behind whatever letters."""
    size = sum(len(reader) for _, reader in parts)
    units = [tuple(int(at == state) for at in range(size)) for state in range(size)]
    columns, fresh = [], [[parts_end(parts, unit) for unit in units]]
    while fresh:
        column = fresh.pop()
        if rank([*columns, column]) > len(columns):
            columns.append(column)
            moves = [[parts_row_after(parts, unit, letter) for unit in units] for letter in parts[0][1].letters]
            moves = moves if letter_wise else [[parts_step(parts, unit) for unit in units]]
            fresh.extend([sum(one * two for one, two in zip(row, column)) for row in rows] for rows in moves)
    return kernel(columns, size)


def kernel(rows, size):
    """Independent rows of integers of which each times each of these rows is 0."""
    left = [[Fraction(number) for number in row] for row in rows]
    heads = {}
    for column in range(size):
        at = next((at for at, row in enumerate(left) if at not in heads.values() and row[column] != 0), None)
        if at is None:
            continue
        left[at] = [number / left[at][column] for number in left[at]]
        left = [row if k == at else [one - row[column] * two for one, two in zip(row, left[at])]
                for k, row in enumerate(left)]
        heads[column] = at
    found = []
    for free in range(size):
        if free not in heads:
            row = [Fraction(0)] * size
            row[free] = Fraction(1)
            for column, at in heads.items():
                row[column] = -left[at][free]
            times = lcm(*[number.denominator for number in row])
            found.append(tuple(int(number * times) for number in row))
    return found


def first_of(readers, is_wanted):
    """The first text at which what the readers read of it is wanted, or None; by sets of states."""
    start = tuple(reader.firsts for reader in readers)
    seen, waiting = {start}, [("", start)]
    for text, sets in waiting:
        if is_wanted(*[any(state in reader.lasts for state in states) for reader, states in zip(readers, sets)]):
            return text
        for letter, after in moves_of(readers, sets):
            if after not in seen:
                seen.add(after)
                waiting.append((text + letter, after))
    return None


def moves_of(readers, sets):
    """For each letter the sets of states to which it leads from these sets."""
    found = []
    for letter in readers[0].letters:
        found.append((letter, tuple(tuple(sorted({to for state, sign, to in reader.arrows if sign == letter and state in states}))
                                    for reader, states in zip(readers, sets))))
    return found


def text_counts(readers, is_wanted, size):
    """The numbers of the texts at which what the readers read is wanted, for all lengths below this one."""
    counts = {tuple(reader.firsts for reader in readers): 1}
    found = []
    for _ in range(size):
        found.append(sum(many for sets, many in counts.items() if is_wanted(
            *[any(state in reader.lasts for state in states) for reader, states in zip(readers, sets)])))
        after = {}
        for sets, many in counts.items():
            for _, led in moves_of(readers, sets):
                after[led] = after.get(led, 0) + many
        counts = after
    return tuple(found)


def reads(reader, text):
    """Whether the reader reads a text."""
    states = set(reader.firsts)
    for letter in text:
        states = {other for state, sign, other in reader.arrows if sign == letter and state in states}
    return bool(states & set(reader.lasts))


def all_cuts(one, other, text):
    """The cuts of a text, ascending."""
    return tuple(at for at in range(len(text) + 1) if reads(one, text[:at]) and reads(other, text[at:]))


def all_chains(reader, text):
    """The chains of a text, ascending."""
    if not text:
        return [()]
    found = [()] if reads(reader, text) else []
    for at in range(1, len(text)):
        if reads(reader, text[:at]):
            found.extend((at, *[at + more for more in chain]) for chain in all_chains(reader, text[at:]))
    return sorted(found)


def first_twice(letters, start, led, many):
    """The first text that has two or more of what is counted, or None; numbers above 2 are told as 2."""
    seen, waiting = {start}, [("", start)]
    for text, counts in waiting:
        if many(counts) > 1:
            return text
        for letter in letters:
            after = tuple(min(number, 2) for number in led(counts, letter))
            if after not in seen:
                seen.add(after)
                waiting.append((text + letter, after))
    return None


def first_twice_cut(one, other):
    """The first text that has two cuts, or None: by the numbers of ways, of the first reader and behind cuts."""
    size = len(one)

    def begun(row):
        here = min(sum(row[state] for state in one.lasts), 2)
        return tuple(row[size + state] + here * (state in other.firsts) for state in range(len(other)))

    def led(row, letter):
        return row_after(one, row[:size], letter) + row_after(other, begun(row), letter)
    start = tuple(int(state in one.firsts) for state in range(size)) + (0,) * len(other)
    return first_twice(one.letters, start, led, lambda row: sum(begun(row)[state] for state in other.lasts))


def first_twice_chained(reader):
    """The first text that has two chains, or None: by the numbers of chains that have ended, and of others."""
    def led(row, letter):
        begun = [number + row[0] * (state in reader.firsts) for state, number in enumerate(row[1:])]
        after = row_after(reader, begun, letter)
        return (sum(after[state] for state in reader.lasts), *after)
    return first_twice(reader.letters, (1,) + (0,) * len(reader), led, lambda row: row[0])


def all_careful(reader, most=1000):
    """The careful states that come up, by what is told of them, with the arrows between them; by sets."""
    arrows = {}
    for state, letter, other in reader.arrows:
        arrows.setdefault((state, letter), set()).add(other)
    found = [(state, tuple(other for other in reader.firsts if other < state)) for state in reader.firsts]
    between, at = [], 0
    while at < len(found) <= most:
        state, earlier = found[at]
        for letter in reader.letters:
            to = arrows.get((state, letter), set())
            others = set().union(*[arrows.get((other, letter), set()) for other in earlier])
            for other in sorted(to - others):
                pair = (other, tuple(sorted(others | {less for less in to if less < other})))
                if pair not in found:
                    found.append(pair)
                between.append((at, letter, found.index(pair)))
        at += 1
    return tuple(found), tuple(sorted(between))
