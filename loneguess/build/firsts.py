"""First ways: for each reader a lone one that reads the same texts.

Sets of states are kept as masks here, also in careful states.
"""

from loneguess.base.masks import image, mask_of, states_of
from loneguess.errors import TooMany
from loneguess.read.readers import MAX_STATES, Reader, check_reader


def careful(reader):
    """The tuple of the careful states that come up, as they are numbered."""
    check_reader(reader)
    found, _ = _met(reader)
    return tuple([(state, states_of(earlier)) for state, earlier in found])


def lone_of(reader):
    """A lone reader that reads the same texts, by first ways."""
    check_reader(reader)
    found, arrows = _met(reader)
    lasts = mask_of(reader.lasts)
    new_lasts = [at for at, (state, earlier) in enumerate(found) if lasts >> state & 1 and not lasts & earlier]
    new_firsts = tuple(range(len(reader.firsts)))
    return Reader(reader.letters, max(len(found), 1), new_firsts, tuple(new_lasts), tuple(sorted(arrows)))


def _met(reader):
    """The careful states, in the order in which they are met, and the arrows between their numbers."""
    firsts = mask_of(reader.firsts)
    found = [(state, _below(firsts, state)) for state in reader.firsts]
    number = {pair: at for at, pair in enumerate(found)}
    arrows = []
    at = 0
    while at < len(found):
        for letter in reader.letters:
            for pair in _led(reader.onward(letter), found[at]):
                if pair not in number:
                    number[pair] = len(found)
                    found.append(pair)
                    if len(found) > MAX_STATES:
                        raise TooMany(MAX_STATES)
                arrows.append((at, letter, number[pair]))
        at += 1
    return found, arrows


def _led(leads, pair):
    """The careful states to which a letter leads from a careful state, ascending."""
    state, earlier = pair
    others = image(leads, earlier)
    return [(to, others | _below(leads[state], to)) for to in states_of(leads[state] & ~others)]


def _below(mask, state):
    """The part of a mask that is less than a state."""
    return mask & (1 << state) - 1
