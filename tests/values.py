"""Values that many tests use: readers, and wrong values of every kind."""

import random

from loneguess.errors import InvalidNumber
from loneguess.read.readers import Reader

ODD = Reader("ab", 2, (0,), (1,), ((0, "a", 1), (0, "b", 0), (1, "a", 0), (1, "b", 1)))
ENDA = Reader("ab", 2, (0,), (1,), ((0, "a", 0), (0, "a", 1), (0, "b", 0)))
BEFORE = Reader("ab", 3, (0,), (2,), ((0, "a", 0), (0, "a", 1), (0, "b", 0), (1, "a", 2), (1, "b", 2)))
SOME = Reader("ab", 2, (0,), (1,), ((0, "a", 0), (0, "a", 1), (0, "b", 0), (1, "a", 1), (1, "b", 1)))
EVERY = Reader("ab", 1, (0,), (0,), ((0, "a", 0), (0, "b", 0)))
NOTHING = Reader("ab", 1, (), (), ())

# The longest integers that are valid, and the shortest ones that are not.
LONG = 10 ** 200 - 1
TOO_LONG = 10 ** 200


def nested(depth):
    """A tuple of tuples, so deep."""
    value = ()
    for _ in range(depth):
        value = (value,)
    return value


# Nothing of this is a state, a name, letters, a reader, a set or a row of two numbers.
STRANGE = (
    None, True, False, -1, 61, 10 ** 299, -(10 ** 299), "A", "a b", "a\n", "ba", "aa", "~" * 4000,
    (None,), (True,), (False, True), ("a",), (1, 0), (0, 0), (0, -1), (0, 10 ** 200), ((),), nested(9),
    [], [0], [0, 1], ["a", "b"], [None], {}, {0: 1}, {"a": "b"}, {(0, 1): [()]}, [[{}]],
    (0, "a"), (0, "a", 1), (0, "a", True), ("two",), ("one",), ("one", (), (), ()), ("two", "", ()),
)


def kinds():
    """Those values, and objects of the package."""
    return [*STRANGE, ODD, NOTHING, InvalidNumber(3)]


def sized_loop(size, letters="a"):
    """A lone reader whose states stand in a circle, gone round by its first letter."""
    arrows = tuple((state, letters[0], (state + 1) % size) for state in range(size))
    return Reader(letters, size, (0,), (size - 1,), arrows)


def full_reader(letters, size):
    """A reader with all arrows, all states being first and last."""
    states = tuple(range(size))
    arrows = tuple((state, letter, other) for state in states for letter in letters for other in states)
    return Reader(letters, size, states, states, arrows)


def some_readers(seed, many, size=4, letters="ab", share=0.3):
    """Small readers of every shape, the same ones for the same seed."""
    told = random.Random(seed)
    found = []
    for _ in range(many):
        states = range(told.randint(1, size))
        ends = [tuple(state for state in states if told.random() < 0.45) for _ in range(2)]
        thick = told.choice((share / 2, share, 2 * share))
        arrows = tuple((state, letter, other) for state in states for letter in letters
                       for other in states if told.random() < thick)
        found.append(Reader(letters, len(states), ends[0], ends[1], arrows))
    return found
