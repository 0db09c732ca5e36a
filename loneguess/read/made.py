"""Readers that are made of other readers."""

from loneguess.base.masks import image, mask_of, states_of
from loneguess.errors import InvalidOperation, TooMany
from loneguess.read.readers import MAX_STATES, Reader, check_reader
from loneguess.read.ways import reached, ready


def trimmed(reader):
    """The reader with those states only that are on some way of some text."""
    check_reader(reader)
    onward = [reader.onward(letter) for letter in reader.letters]
    backward = [reader.backward(letter) for letter in reader.letters]
    mask = _closure(onward, mask_of(reader.firsts)) & _closure(backward, mask_of(reader.lasts))
    if mask == 0:
        return Reader(reader.letters, 1, (), (), ())
    place = {state: index for index, state in enumerate(states_of(mask))}
    firsts = tuple([place[state] for state in reader.firsts if state in place])
    lasts = tuple([place[state] for state in reader.lasts if state in place])
    arrows = tuple([(place[state], letter, place[other]) for state, letter, other in reader.arrows
                    if state in place and other in place])
    return Reader(reader.letters, len(place), firsts, lasts, arrows)


def turned(reader):
    """The reader that reads the texts turned round."""
    check_reader(reader)
    arrows = sorted([(other, letter, state) for state, letter, other in reader.arrows])
    return Reader(reader.letters, len(reader), reader.lasts, reader.firsts, tuple(arrows))


def behind(reader, text):
    """The reader that reads what can stand behind a text."""
    firsts = reached(reader, text)
    return reader.with_ends(firsts=firsts)


def ahead(reader, text):
    """The reader that reads what can stand ahead of a text."""
    lasts = ready(reader, text)
    return reader.with_ends(lasts=lasts)


def both(one, other):
    """The reader of the pairs of states; its number of ways is the product."""
    check_alike(one, other)
    many = len(other)
    size = len(one) * many
    if size > MAX_STATES:
        raise TooMany(MAX_STATES)
    firsts = tuple([state * many + pair for state in one.firsts for pair in other.firsts])
    lasts = tuple([state * many + pair for state in one.lasts for pair in other.lasts])
    arrows = sorted([(state * many + pair, letter, to * many + into)
                     for state, letter, to in one.arrows
                     for pair, same, into in other.arrows if letter == same])
    return Reader(one.letters, size, firsts, lasts, tuple(arrows))


def beside(one, other):
    """Both readers side by side; its number of ways is the sum."""
    check_alike(one, other)
    many = len(one)
    size = many + len(other)
    if size > MAX_STATES:
        raise TooMany(MAX_STATES)
    firsts = one.firsts + tuple([many + state for state in other.firsts])
    lasts = one.lasts + tuple([many + state for state in other.lasts])
    moved = tuple([(many + state, letter, many + to) for state, letter, to in other.arrows])
    return Reader(one.letters, size, firsts, lasts, one.arrows + moved)


def check_alike(one, other):
    """Raises an error unless both are readers, and have the same letters."""
    check_reader(one)
    check_reader(other)
    if one.letters != other.letters:
        raise InvalidOperation("readers with the same letters are wanted")


def _closure(tables, mask):
    """The mask of all states that can be come to from those in a mask."""
    found = 0
    fresh = mask
    while fresh:
        found = found | fresh
        after = 0
        for leads in tables:
            after = after | image(leads, fresh)
        fresh = after & ~found
    return found
