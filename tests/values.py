"""Values that many tests use: readers, and wrong values of every kind."""

import random

from loneguess.count.tallies import Tally
from loneguess.desk.desk import Desk
from loneguess.errors import InvalidNumber
from loneguess.formula.formulas import Formula
from loneguess.formula.shelves import Shelf
from loneguess.read.lone import is_lone
from loneguess.read.readers import Reader
from loneguess.text.shell import Shell

ODD = Reader("ab", 2, (0,), (1,), ((0, "a", 1), (0, "b", 0), (1, "a", 0), (1, "b", 1)))
ENDA = Reader("ab", 2, (0,), (1,), ((0, "a", 0), (0, "a", 1), (0, "b", 0)))
BEFORE = Reader("ab", 3, (0,), (2,), ((0, "a", 0), (0, "a", 1), (0, "b", 0), (1, "a", 2), (1, "b", 2)))
SOME = Reader("ab", 2, (0,), (1,), ((0, "a", 0), (0, "a", 1), (0, "b", 0), (1, "a", 1), (1, "b", 1)))
EVERY = Reader("ab", 1, (0,), (0,), ((0, "a", 0), (0, "b", 0)))
NOTHING = Reader("ab", 1, (), (), ())

# The longest integers that are valid, and the shortest ones that are not.
LONG = 10 ** 200 - 1
TOO_LONG = 10 ** 200


def nested(depth):
    """A tuple of tuples, so deep."""
    value = ()
    for _ in range(depth):
        value = (value,)
    return value


# Nothing of this is a state, a name, letters, a reader, a set or a row of two numbers.
STRANGE = (
    None, True, False, -1, 61, 10 ** 299, -(10 ** 299), "A", "a b", "a\n", "ba", "aa", "~" * 4000,
    (None,), (True,), (False, True), ("a",), (1, 0), (0, 0), (0, -1), (0, 10 ** 200), ((),), nested(9),
    [], [0], [0, 1], ["a", "b"], [None], {}, {0: 1}, {"a": "b"}, {(0, 1): [()]}, [[{}]],
    (0, "a"), (0, "a", 1), (0, "a", True), ("two",), ("one",), ("one", (), (), ()), ("two", "", ()),
)


def kinds():
    """Those values, and objects of the package."""
    return [*STRANGE, ODD, NOTHING, InvalidNumber(3), Tally(((1, ODD),)), Formula.of("odd"), Shelf("ab", {"odd": ODD}),
            Desk("ab"), Shell("ab")]


def kinds_but(*classes):
    """Those of them that are no objects of these classes."""
    return [value for value in kinds() if not isinstance(value, classes)]


def sized_loop(size, letters="a"):
    """A lone reader whose states stand in a circle, gone round by its first letter."""
    arrows = tuple((state, letters[0], (state + 1) % size) for state in range(size))
    return Reader(letters, size, (0,), (size - 1,), arrows)


def full_reader(letters, size):
    """A reader with all arrows, all states being first and last."""
    states = tuple(range(size))
    arrows = tuple((state, letter, other) for state in states for letter in letters for other in states)
    return Reader(letters, size, states, states, arrows)


def some_readers(seed, many, size=4, letters="ab", share=0.3):
    """Small readers of every shape, the same ones for the same seed."""
    told = random.Random(seed)
    found = []
    for _ in range(many):
        states = range(told.randint(1, size))
        ends = [tuple(state for state in states if told.random() < 0.45) for _ in range(2)]
        thick = told.choice((share / 2, share, 2 * share))
        arrows = tuple((state, letter, other) for state in states for letter in letters
                       for other in states if told.random() < thick)
        found.append(Reader(letters, len(states), ends[0], ends[1], arrows))
    return found


def some_tallies(seed, many, size=3, letters="ab"):
    """Small tallies of every shape, the same ones for the same seed; some have only totals of 0."""
    told = random.Random(seed)
    readers = some_readers(seed, 3 * many, size, letters)
    found = []
    for at in range(many):
        own = readers[3 * at:3 * at + 3]
        parts = [(told.choice((-2, -1, 0, 1, 1, 3)), told.choice(own)) for _ in range(told.randint(1, 4))]
        if at % 3 == 0:
            parts.extend((-number, shuffled(reader, told)) for number, reader in list(parts))
            told.shuffle(parts)
        found.append(Tally(tuple(parts)))
    return found


def some_lone_readers(seed, many, size=4, letters="ab"):
    """Small lone readers of every shape, the same ones for the same seed."""
    return [reader for reader in some_readers(seed, 8 * many, size, letters) if is_lone(reader)][:many]


def shuffled(reader, told):
    """The reader with its states in another order."""
    place = list(range(len(reader)))
    told.shuffle(place)
    firsts, lasts = [tuple(sorted(place[state] for state in ends)) for ends in (reader.firsts, reader.lasts)]
    arrows = tuple(sorted((place[one], letter, place[other]) for one, letter, other in reader.arrows))
    return Reader(reader.letters, len(reader), firsts, lasts, arrows)


def mixed(rows, told, limit=9):
    """Other rows with the same sums of multiples."""
    found = [list(row) for row in rows]
    for _ in range(3 * len(found)):
        one, other = told.randrange(len(found)), told.randrange(len(found))
        times = told.choice((1, -1, 2, limit))
        if one != other:
            found[one] = [number + times * more for number, more in zip(found[one], found[other])]
    told.shuffle(found)
    times = [told.choice((1, -1, 3, limit)) for _ in found]
    return tuple(tuple(number * factor for number in row) for row, factor in zip(found, times))


def some_trees(seed, many, names="abcd"):
    """Trees of formulas, of every shape, the same ones for the same seed."""
    told = random.Random(seed)
    return [grown_tree(told, told.randint(1, 5), names) for _ in range(many)]


def grown_tree(told, depth, names):
    """A tree of at most so many tuples one in another."""
    if depth == 1 or told.random() < 0.2:
        return told.choice([*[("name", name) for name in names * 3], ("all",), ("none",)])
    word = told.choice(("not", "and", "or"))
    return (word, *[grown_tree(told, depth - 1, names) for _ in range(1 if word == "not" else 2)])
