"""Whether a reader is lone.

Pairs of states are kept by a list that has for each state the mask of the
states that are paired with it; so each pair of unlike states is kept twice.
"""

from loneguess.base.masks import image, mask_of, states_of
from loneguess.base.names import is_ascending, is_text
from loneguess.errors import NotLone
from loneguess.read.readers import check_reader, is_state
from loneguess.read.ways import is_way, ways

MAX_PAPER_TEXT = 4000


def is_lone(reader):
    """Whether no text has two ways or more."""
    return two_ways(reader) is None


def two_ways(reader):
    """The first text that has two ways or more, or None."""
    check_reader(reader)
    groups = [("", _first_group(reader))]
    seen = _first_group(reader)
    lasts = mask_of(reader.lasts)
    while groups:
        for text, group in groups:
            if any([group[state] & lasts for state in reader.lasts]):
                return text
        groups, seen = _next_groups(reader, groups, seen)
    return None


def meeting(reader):
    """The set of the pairs of states that meet."""
    check_reader(reader)
    return _pairs_in(_closure(_onward(reader), _all_pairs(len(reader), reader.firsts)))


def ending(reader):
    """The set of the pairs of states that end together."""
    check_reader(reader)
    return _pairs_in(_closure(_backward(reader), _all_pairs(len(reader), reader.lasts)))


def lone_paper(reader):
    """A paper that a reader is lone, or that it is not."""
    text = two_ways(reader)
    if text is None:
        return ("one", meeting(reader), ending(reader))
    found = _first_two(reader, text)
    return ("two", text, found[0], found[1])


def is_lone_paper(reader, value):
    """Whether the value is such a paper of a reader."""
    check_reader(reader)
    if not isinstance(value, tuple):
        return False
    if len(value) == 4 and value[0] == "two":
        return _shows_two(reader, value[1], value[2], value[3])
    if len(value) == 3 and value[0] == "one":
        return _shows_one(reader, value[1], value[2])
    return False


def check_lone(reader):
    """Raises NotLone with the first text that has two ways, if there is one."""
    text = two_ways(reader)
    if text is not None:
        raise NotLone(text)


def is_paper_text(letters, value):
    """Whether the value is a text of these letters that is not too long for a paper."""
    return is_text(letters, value) and len(value) <= MAX_PAPER_TEXT


def _first_two(reader, text):
    found = []
    for way in ways(reader, text):
        found.append(way)
        if len(found) == 2:
            break
    return found


def _shows_two(reader, text, way, other):
    if not is_paper_text(reader.letters, text):
        return False
    return is_way(reader, text, way) and is_way(reader, text, other) and way != other


def _shows_one(reader, meets, ends):
    size = len(reader)
    if not _is_pair_set(size, meets) or not _is_pair_set(size, ends):
        return False
    met = _kept(size, meets)
    ended = _kept(size, ends)
    if not _has_all(met, _all_pairs(size, reader.firsts)) or not _is_closed(_onward(reader), met):
        return False
    if not _has_all(ended, _all_pairs(size, reader.lasts)) or not _is_closed(_backward(reader), ended):
        return False
    return all([one & other & ~(1 << state) == 0 for state, (one, other) in enumerate(zip(met, ended))])


def _is_pair_set(size, value):
    if not isinstance(value, tuple):
        return False
    return all([_is_pair(size, pair) for pair in value]) and is_ascending(value)


def _is_pair(size, value):
    if not isinstance(value, tuple) or len(value) != 2:
        return False
    return is_state(size, value[0]) and is_state(size, value[1]) and value[0] <= value[1]


def _onward(reader):
    return [reader.onward(letter) for letter in reader.letters]


def _backward(reader):
    return [reader.backward(letter) for letter in reader.letters]


def _all_pairs(size, states):
    """All pairs of some states, as they are kept."""
    mask = mask_of(states)
    return [mask if mask >> state & 1 else 0 for state in range(size)]


def _kept(size, pairs):
    """A set of pairs, as it is kept."""
    found = [0] * size
    for one, other in pairs:
        found[one] = found[one] | 1 << other
        found[other] = found[other] | 1 << one
    return found


def _pairs_in(kept):
    """The set of pairs that is kept so."""
    return tuple([(one, other) for one, mask in enumerate(kept) for other in states_of(mask) if one <= other])


def _led(leads, kept):
    """The pairs to which arrows with one letter lead from the states of pairs."""
    found = [0] * len(leads)
    for state, mask in enumerate(kept):
        if mask:
            others = image(leads, mask)
            for to in states_of(leads[state]):
                found[to] = found[to] | others
    return found


def _joined(kept, more):
    return [one | other for one, other in zip(kept, more)]


def _without(kept, less):
    return [one & ~other for one, other in zip(kept, less)]


def _has_all(kept, pairs):
    return not any(_without(pairs, kept))


def _is_closed(tables, kept):
    return all([_has_all(kept, _led(leads, kept)) for leads in tables])


def _closure(tables, start):
    """All pairs that can be come to from some pairs."""
    found = start
    fresh = start
    while any(fresh):
        after = [0] * len(start)
        for leads in tables:
            after = _joined(after, _led(leads, fresh))
        fresh = _without(after, found)
        found = _joined(found, fresh)
    return found


def _first_group(reader):
    """What two ways of the empty text can be at.

    A group is kept pairs, those of ways that have parted, even if they are in one
    state again, and behind them the mask of the states of ways that have not parted.
    """
    pairs = _all_pairs(len(reader), reader.firsts)
    return [mask & ~(1 << state) for state, mask in enumerate(pairs)] + [mask_of(reader.firsts)]


def _led_group(leads, group):
    """The group to which arrows with one letter lead from a group."""
    found = _led(leads, group[:-1])
    for state in states_of(group[-1]):
        for to in states_of(leads[state]):
            found[to] = found[to] | leads[state] & ~(1 << to)
    return found + [image(leads, group[-1])]


def _next_groups(reader, groups, seen):
    """The groups of the texts with one letter more, and all that was seen till then.

    Groups are told with their texts, in the order of these. What a text leads to is
    left out of its group if an earlier text leads to it: a later one adds nothing.
    """
    found = []
    known = seen
    for text, group in groups:
        for letter in reader.letters:
            fresh = _without(_led_group(reader.onward(letter), group), known)
            if any(fresh):
                found.append((text + letter, fresh))
                known = _joined(known, fresh)
    return found, known
