"""Masks: sets of states as integers, in which bit q stands for state q.

Texts are long and sets of states are followed along them, so these sets are
kept as single integers, which are joined by one operation.
"""


def mask_of(states):
    """The mask of different states."""
    return sum([1 << state for state in states])


def states_of(mask):
    """The set of the states in a mask."""
    return tuple([state for state in range(mask.bit_length()) if mask >> state & 1])


def lowest(mask):
    """The least state in a mask, which is not empty."""
    return (mask & -mask).bit_length() - 1


def image(leads, mask):
    """The union of the masks that `leads` has for the states in a mask."""
    found = 0
    for state, lead in enumerate(leads):
        if mask >> state & 1:
            found = found | lead
    return found


def table_of(letters, size, arrows):
    """For each letter the tuple of the masks to which arrows lead, by state."""
    table = {letter: [0] * size for letter in letters}
    for state, letter, other in arrows:
        table[letter][state] = table[letter][state] | 1 << other
    return {letter: tuple(table[letter]) for letter in letters}
